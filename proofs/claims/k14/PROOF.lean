import PyProof.Rows.All
import Wide.All
import OpenK.AllK
import Wide.FinOn
import Lean
import PyProof.EqAt
import PyProof.EqKinds
import PyProof.TupleCall
import PyProof.NeKinds
import PyProof.ZipIter
import KE.KSortTup
import PyProof.TupleKey
import PyProof.SetKind
import PyProof.IsRules
import PyProof.Rows.SetFrom
import PyProof.Rows.SortShell
import KE.KDictList
import KE.KDictSum
import PyProof.MinMaxWalk
import PyProof.Rows.CallKwBuiltin
import PyProof.TupleIter
import KE.KIntText
import PyProof.Rows.StrWeight2
import PyProof.Rows.StrNews
import PyProof.StrWalks
import PyProof.FString5
import PyProof.SliceStr2
import PyProof.FitsReplace
import PyProof.Rows.StrSplitCount
import PyProof.StationsW
import OpenK.KOwn
import PyProof.ExcClass2
import KE.KIsAll
import OpenK.KMake
import PyProof.ExcArgs
import PyProof.ExcAttrAll.ValueError
import KE.KTryMore
import PyProof.NsDelKeeps
import PyProof.RulesAs
import PySem.Str
import PyProof.Rows.SortRuns
import PyProof.SetRoads
import PyProof.Draws
import PyProof.EnumStmt
import PyProof.Rows.EnumRows
import KE.KSortKey
import PyProof.ReprRoads
import PyProof.StrBlockL
import PyProof.Rows.StrNews2
import PyProof.ReprReads
import PyProof.ListMulRoad
import PyProof.StrLawsRepr
import PyProof.ExcBaseAll.ValueError
import PySem.Challenge.RW_healfloor_k14_refusals_made
set_option bootstrap.genMatcherCode false
set_option genSizeOf false
set_option compiler.extract_closed false
local macro_rules|`(tactic|nofun)=>`(tactic|first|assumption|lia)
local macro_rules|`(tactic|trivial)=>`(tactic|first|exact Or.inl rfl|exact Or.inr rfl)
noncomputable abbrev xa:=@PySem.wpAny_bind
noncomputable abbrev xb:=@if_pos
noncomputable abbrev xc:=@if_neg
noncomputable abbrev xf:=@PySem.wpAny_pure
noncomputable abbrev xg:=@Bool.and_eq_true
noncomputable abbrev xh:=@Nat.le_refl
noncomputable abbrev xi:=@PySem.Heap.lt_size
noncomputable abbrev xj:=@if_true
noncomputable abbrev xk:=@Ne.symm
noncomputable abbrev xl:=@PySem.Heap.get?_push_of_some
noncomputable abbrev xm:=@List.size_toArray
noncomputable abbrev xn:=@Nat.lt_of_lt_of_le
noncomputable abbrev xo:=@Nat.ne_of_lt
noncomputable abbrev xp:=@List.getElem?_eq_getElem
noncomputable abbrev xq:=@Nat.le_trans
noncomputable abbrev xr:=@List.getElem?_set_ne
noncomputable abbrev xt:=@List.map_cons
noncomputable abbrev xu:=@List.getElem?_eq_some_iff
noncomputable abbrev xv:=@PySem.Heap.get?_push_size
noncomputable abbrev xw:=@PySem.wpAny_mono
noncomputable abbrev xx:=@PySem.wpAny_holding
noncomputable abbrev xy:=@List.lookup_cons
noncomputable abbrev xA:=@beq_iff_eq
noncomputable abbrev xB:=@decide_eq_false
noncomputable abbrev xC:=@List.mem_cons
noncomputable abbrev xD:=@decide_eq_true
noncomputable abbrev xE:=@List.length_map
noncomputable abbrev xF:=@List.getElem?_set_self
noncomputable abbrev xG:=@Bool.false_ne_true
noncomputable abbrev xH:=@List.length_cons
noncomputable abbrev xI:=@List.all_eq_true
noncomputable abbrev xJ:=@List.mem_append_right
noncomputable abbrev xK:=@List.getElem?_append_left
noncomputable abbrev xO:=@Nat.lt_irrefl
noncomputable abbrev xP:=@List.mem_cons_self
noncomputable abbrev xQ:=@PySem.Heap.get?_update_other
noncomputable abbrev xR:=@PySem.Str.length_append
noncomputable abbrev xS:=@List.mem_cons_of_mem
noncomputable abbrev xU:=@List.getElem?_append_right
noncomputable abbrev xV:=@List.getElem?_map
noncomputable abbrev xW:=@Nat.zero_le
noncomputable abbrev xX:=@PySem.Heap.size_push
noncomputable abbrev xY:=@Option.some.inj
noncomputable abbrev xZ:=@List.length_append
noncomputable abbrev x4:=@List.map_nil
noncomputable abbrev x5:=@Bool.not_eq_true'
noncomputable abbrev x6:=@List.length_take
noncomputable abbrev x8:=@PySem.wpAny_field
noncomputable abbrev x9:=@List.getElem?_eq_none
noncomputable abbrev vc:=@List.all_cons
noncomputable abbrev vd:=@PySem.wpAny_loadPart_at
noncomputable abbrev ve:=@List.mem_map
noncomputable abbrev vf:=@PySem.wpAny_standAt
noncomputable abbrev vg:=@PySem.wpAny_newObj_type
noncomputable abbrev vh:=@PySem.wpAny_passesOwn
noncomputable abbrev vi:=@List.getElem?_take_of_lt
noncomputable abbrev vj:=@PyProof.Rows.slot_tuple_getitem
noncomputable abbrev vk:=@Bool.false_eq_true
noncomputable abbrev vm:=@Nat.le_succ
noncomputable abbrev vn:=@Bool.eq_iff_iff
noncomputable abbrev vo:=@List.append_nil
noncomputable abbrev vp:=@PySem.wpAny_Call_Name_kw
noncomputable abbrev vq:=@List.nodup_cons
noncomputable abbrev vt:=@PySem.mem_of_lookup
noncomputable abbrev vw:=@List.find?_cons
noncomputable abbrev vx:=@List.length_nil
noncomputable abbrev vy:=@Option.map_eq_some_iff
noncomputable abbrev vz:=@Nat.lt_of_le_of_lt
noncomputable abbrev vA:=@beq_self_eq_true
noncomputable abbrev vB:=@Bool.eq_false_iff
noncomputable abbrev vC:=@List.nil_append
noncomputable abbrev vD:=@Int.emod_nonneg
noncomputable abbrev vE:=@Int.emod_lt_of_pos
noncomputable abbrev vF:=@PySem.Heap.get?_none_of_le
noncomputable abbrev vG:=@PySem.wpAny_execs_nil
noncomputable abbrev vH:=@List.replicate_succ
noncomputable abbrev vI:=@Bool.not_eq_true
noncomputable abbrev vJ:=@PySem.Heap.get?_update_self
noncomputable abbrev vK:=@Option.map_some
noncomputable abbrev vL:=@List.filterMap_cons
noncomputable abbrev vM:=@List.mem_append_left
noncomputable abbrev vN:=@Array.length_toList
noncomputable abbrev vO:=@List.mem_of_getElem?
noncomputable abbrev vP:=@Array.getElem?_eq_some_iff
noncomputable abbrev vQ:=@List.eq_nil_of_length_eq_zero
noncomputable abbrev vR:=@PySem.F.excBase_ValueError
noncomputable abbrev vS:=@PyProof.Rows.callWith_type1
set_option linter.all false
set_option maxRecDepth 100000
set_option Elab.async false
set_option maxHeartbeats 8000000
namespace L2
open PySem PySem.Spec PyProof.Rows
noncomputable abbrev Key:=Sum Int Str
noncomputable def zG5:Key->Value->Bool
 | .inl k,v=>Value.isInt k v
 | .inr x,v=>Value.isStrOf x v
noncomputable def keyH (w:World):Key->Int
 | .inl k=>hashInt k
 | .inr x=>hashStr w x
theorem zAa:∀{k:Key}{v:Value},zG5 k v=true->(∃i t,k=Sum.inl i/\v=Value.int i t)\/(∃x t,k=Sum.inr x/\v=Value.str x t)
 | .inl i,v,h=>by
  obtain⟨t,e⟩:=Value.isInt_shape (k:=i) (v:=v) h
  exact .inl ⟨i,t,rfl,e⟩
 | .inr x,v,h=>by
  obtain⟨t,e⟩:=Value.isStrOf_shape (x:=x) (v:=v) h
  exact .inr ⟨x,t,rfl,e⟩
theorem zHp (i:Int) (t:Tok):zG5 (.inl i) (.int i t)=true:=by simp[zG5,Value.isInt]
theorem zHo (x:Str) (t:Tok):zG5 (.inr x) (.str x t)=true:=by simp[zG5,Value.isStrOf]
theorem zQc (a b:Int):decide ((Sum.inl a:Key)=Sum.inl b)=(a == b):=by
 by_cases e:a=b
 ·subst e;simp
 ·have h:¬ (Sum.inl a:Key)=Sum.inl b:=fun q=>e (Sum.inl.inj q)
  rw[xB h]
  exact(beq_eq_false_iff_ne.mpr e).symm
theorem zQ9 (a b:Str):decide ((Sum.inr a:Key)=Sum.inr b)=decide (a=b):=by
 by_cases e:a=b
 ·subst e;simp
 ·have h:¬ (Sum.inr a:Key)=Sum.inr b:=fun q=>e (Sum.inr.inj q)
  rw[xB h,xB e]
theorem zQb (a:Int) (b:Str):decide ((Sum.inl a:Key)=Sum.inr b)=false:=xB (fun q=>nomatch q)
theorem zQa (a:Str) (b:Int):decide ((Sum.inr a:Key)=Sum.inl b)=false:=xB (fun q=>nomatch q)
noncomputable def zAg (prog:Program) (w:World):PySem.KeyKind prog w Key where
 is:=zG5
 hash:=keyH w
 inj:=fun v a b ha hb=>by
  rcases zAa ha with⟨i,t,rfl,rfl⟩|⟨x,t,rfl,rfl⟩
  ·rcases zAa hb with⟨j,u,rfl,e⟩|⟨y,u,rfl,e⟩
   ·injection e with e1 _;rw[e1]
   ·exact nomatch e
  ·rcases zAa hb with⟨j,u,rfl,e⟩|⟨y,u,rfl,e⟩
   ·exact nomatch e
   ·injection e with e1 _;rw[e1]
 byValue:=fun k v h=>by
  rcases zAa h with⟨i,t,rfl,rfl⟩|⟨x,t,rfl,rfl⟩ <;> rfl
 pyHash:=fun hv h=>by
  rcases zAa hv with⟨i,t,rfl,rfl⟩|⟨x,t,rfl,rfl⟩
  ·exact wpAny_pyHash_int h
  ·exact wpAny_pyHash_str h
 eqBool:=fun hu hv h=>by
  rcases zAa hu with⟨i,t,rfl,rfl⟩|⟨x,t,rfl,rfl⟩
  ·rcases zAa hv with⟨j,u,rfl,rfl⟩|⟨y,u,rfl,rfl⟩
   ·rw[zQc]at h;exact wpAny_eqBool_int h
   ·rw[zQb]at h;exact SeqAt.EqAt.int_str i t y u _ _ _ _ h
  ·rcases zAa hv with⟨j,u,rfl,rfl⟩|⟨y,u,rfl,rfl⟩
   ·rw[zQa]at h;exact SeqAt.EqAt.str_int x t j u _ _ _ _ h
   ·rw[zQ9]at h;exact wpAny_eqBool_str h
 «strs»:=fun k x t v h=>by
  rcases zAa h with⟨i,u,rfl,e⟩|⟨y,u,rfl,e⟩
  ·exact nomatch e
  ·injection e with e1 _
   subst e1
   cases v <;> rfl
theorem zEl (prog:Program) (w:World) (i:Int) (t:Tok):(zAg prog w).is (.inl i) (.int i t)=true:=zHp i t
theorem zEk (prog:Program) (w:World) (x:Str) (t:Tok):(zAg prog w).is (.inr x) (.str x t)=true:=zHo x t
end L2
namespace L2
open PySem PySem.Spec PyProof.Rows
inductive V where
 | non|bl (b:Bool)|int (i:Int)|str (x:Str)|byt (b:Array UInt8)|flt (b:UInt64)|ref (a:Addr)|ty (n:String)
 deriving DecidableEq
noncomputable def RelV:V->Value->Prop
 | .non,u=>u=Value.none
 | .bl b,u=>u=Value.bool b
 | .int i,u=>∃t,u=Value.int i t
 | .str x,u=>∃t,u=Value.str x t
 | .byt b,u=>∃t,u=Value.bytes b t
 | .flt b,u=>∃t,u=Value.float b t
 | .ref a,u=>u=Value.ref a
 | .ty n,u=>u=Value.type n
noncomputable abbrev Vals:List V->List Value->Prop:=Paired RelV
theorem Vals.length {xs:List V}{us:List Value}(r:Vals xs us):xs.length=us.length:=Paired.length r
theorem Vals.get:∀{xs:List V}{us:List Value}{i:Nat}{x:V},Vals xs us->xs[i]?=some x->∃u,us[i]?=some u/\RelV x u
 | _,_,_,_,.nil,e=>by simp at e
 | _,_,0,_,.cons r _,e=>by simp at e;subst e;exact⟨_,rfl,r⟩
 | _,_,i+1,x,.cons _ t,e=>by
  obtain⟨u,h1,h2⟩:=Vals.get (i:=i) (x:=x) t (by simpa using e)
  exact⟨u,by simpa using h1,h2⟩
theorem Vals.append:∀{xs ys:List V}{us ws:List Value},Vals xs us->Vals ys ws->Vals (xs++ys) (us++ws)
 | _,_,_,_,.nil,s=>s
 | _,_,_,_,.cons r t,s=>.cons r (Vals.append t s)
theorem Vals.take:∀{xs:List V}{us:List Value}(n:Nat),Vals xs us->Vals (xs.take n) (us.take n)
 | _,_,0,_=>.nil
 | _,_,_+1,.nil=>.nil
 | _,_,n+1,.cons r t=>.cons r (Vals.take n t)
theorem Vals.drop:∀{xs:List V}{us:List Value}(n:Nat),Vals xs us->Vals (xs.drop n) (us.drop n)
 | _,_,0,r=>r
 | _,_,_+1,.nil=>.nil
 | _,_,n+1,.cons _ t=>Vals.drop n t
noncomputable def RelO:Option V->Option Value->Prop
 | some v,some u=>RelV v u
 | none,none=>True
 | _,_=>False
noncomputable def KV {κ:Type}:List (κ × V)->List (κ × Value)->Prop:=Paired fun(p:κ × V) (q:κ × Value)=>p.1=q.1/\RelV p.2 q.2
noncomputable def kV:Key->V
 | .inl i=>.int i
 | .inr x=>.str x
inductive HO where
 /-- a list -/
 | lst (xs:List V)
 /-- a tuple (never changes) -/
 | tup (xs:List V)
 /-- a dict whose keys are ints and texts;one whose keys are tuples of ints and texts (the empty one is both) -/
 | dK (kvs:List (Key × V))|dT (kvs:List (List Key × V))
 /-- a set of ints: its members,its size -/
 | set (S:Int->Bool) (n:Nat)
 /-- an instance of the class at C,its dict at dx,its attributes -/
 | ins (C dx:Addr) (fs:List (Str × V))
 /-- the dict of the instance at x -/
 | own (x:Addr)
 /-- the dict of an exception -/
 | xd (fs:List (Str × V))
 /-- a bound method,f of x -/
 | met (f x:Addr)
 /-- a range object lo,lo+1,.. below hi -/
 | rng (lo hi:Int)
 /-- a thing that is known to the object (the script;a dict while a loop walks it): read,never written while it is so -/
 | frz (o:Obj) (u:HO)
 /-- a code object's table -/
 | tbl (ps:Array Value)
 /-- any other thing,by what is true of its one object (a def of one's own: SetO a S n:=HO.ext fun h=>..) -/
 | ext (φ:Heap->Prop)
noncomputable abbrev Hp:=Addr->Option HO
noncomputable def upd (H:Hp) (a:Addr) (o:HO):Hp:=fun b=>if b=a then some o else H b
theorem zA5 {H:Hp}{a:Addr}{o:HO}:upd H a o a=some o:=by unfold upd;rw[xb rfl]
theorem zA3 {H:Hp}{a b:Addr}{o:HO}(h:b≠a):upd H a o b=H b:=by unfold upd;rw[xc h]
theorem zA2 {H:Hp}{a b:Addr}{o:HO}(h:H a=some o) (h':H b=none):a≠b:=by
 intro e;subst e;rw[h]at h';cases h'
section
variable (P:Program) (w:World)
noncomputable def ObjOk (H:Hp) (h:Heap) (a:Addr):HO->Prop
 | .lst xs=>xs.length<=sizeLine/\∃(its:List Value) (n:Nat),Vals xs its/\h.get? a=some { cls:=.type "list",data:=.seq its.toArray n }
 | .tup xs=>xs.length<=sizeLine/\∃its:List Value,Vals xs its/\IsTup h a its.toArray
 | .dK kvs=>kvs.length<=sizeLine/\(a == sysModules)=false/\∃vs,KV kvs vs/\h.DictOf (zAg P w) a vs
 | .dT kvs=>kvs.length<=sizeLine/\(a == sysModules)=false/\∃xs:List (List Key × Addr × Value),
   Paired (fun(p:List Key × V) (q:List Key × Addr × Value)=>p.1=q.1/\H q.2.1=some (.tup (p.1.map kV))/\RelV p.2 q.2.2) kvs xs /\
   ∃o es ep,h.get? a=some o/\o.ExactDict/\o.data=.dict es ep/\es.toList=xs.map (entryOfKey (tupleKind (zAg P w)))/\(xs.map (·.1)).Nodup
 | .set S n=>h.SetOf (intKind P w) a S n
 | .ins C dx fs=>H dx=some (.own a)/\fs.length<=1000/\dx≠a/\h.get? a=some (PySem.W.instObj C dx) /\
   ∃mA,h.Ns1 dx mA/\(∀f,RelO (fs.lookup f) (mA f))/\PySem.Within mA (fs.map (·.1))
 | .own _=>∃o,h.get? a=some o
 | .xd fs=>∃mA,h.Ns1 a mA/\∀f,RelO (fs.lookup f) (mA f)
 | .rng lo hi=>∃t u v,h.get? a=some { cls:=.type "range",data:=.fields #[.int lo t,.int hi u,.int 1 v] }
 | .frz o u=>h.get? a=some o/\ObjOk H h a u
 | .tbl ps=>h.get? a=some { cls:=.none,data:=.fields ps }
 | .met f x=>h.get? a=some (PySem.W.methodObj (.ref f) (.ref x))
 | .ext φ=>φ h/\(∃o,h.get? a=some o)/\∀h1 h2:Heap,φ h1->(∀o,h1.get? a=some o->h2.get? a=some o)->φ h2
noncomputable def HOk (H:Hp) (h:Heap):Prop:=∀a o,H a=some o->ObjOk P w H h a o
end
section
variable {P:Program}{w:World}{H H':Hp}{h h':Heap}{a:Addr}{o:HO}
theorem ObjOk.lt (x:ObjOk P w H h a o):a<h.objs.size:=by
 cases o with
 | lst xs=>obtain⟨_,_,_,_,e⟩:=x;exact xi e
 | tup xs=>obtain⟨_,_,_,p⟩:=x;exact p.lt
 | dK kvs=>obtain⟨_,_,_,_,o,_,_,e,_⟩:=x;exact xi e
 | dT kvs=>obtain⟨_,_,_,_,o,_,_,e,_⟩:=x;exact xi e
 | set S n=>obtain⟨o,_,_,_,e,_⟩:=x;exact xi e
 | ins C dx fs=>obtain⟨_,_,_,e,_⟩:=x;exact xi e
 | own y=>obtain⟨_,e⟩:=x;exact xi e
 | xd fs=>obtain⟨_,⟨_,_,_,e,_⟩,_⟩:=x;exact xi e
 | rng lo hi=>obtain⟨_,_,_,e⟩:=x;exact xi e
 | frz ob u=>obtain⟨e,_⟩:=x;exact xi e
 | tbl ps=>exact xi (show h.get? a=some _ from x)
 | met f y=>exact xi (show h.get? a=some _ from x)
 | ext φ=>obtain⟨_,⟨_,e⟩,_⟩:=x;exact xi e
theorem Paired.mapP {α β:Type}{F G:α->β->Prop}:∀{l₁:List α}{l₂:List β},Paired F l₁ l₂->(∀a b,F a b->G a b)->Paired G l₁ l₂
 | _,_,.nil,_=>.nil
 | _,_,.cons r t,f=>.cons (f _ _ r) (Paired.mapP t f)
theorem ObjOk.stay (x:ObjOk P w H h a o) (k:∀b u,(b=a\/H b=some (.own a))->h.get? b=some u->h'.get? b=some u)
  (ho:∀b,H b=some (.own a)->H' b=some (.own a)) (ht:∀b xs,H b=some (.tup xs)->H' b=some (.tup xs)):ObjOk P w H' h' a o:=by
 induction o with
 | lst xs=>obtain⟨z,its,n,r,e⟩:=x;exact⟨z,its,n,r,k _ _ (.inl rfl) e⟩
 | tup xs=>obtain⟨z,its,r,ob,e,c⟩:=x;exact⟨z,its,r,ob,k _ _ (.inl rfl) e,c⟩
 | dK kvs=>obtain⟨z,y,vs,r,ob,es,ep,e,c⟩:=x;exact⟨z,y,vs,r,ob,es,ep,k _ _ (.inl rfl) e,c⟩
 | dT kvs=>
  obtain⟨z,y,xs,r,ob,es,ep,e,c⟩:=x
  exact⟨z,y,xs,Paired.mapP r fun p q z=>⟨z.1,ht _ _ z.2.1,z.2.2⟩,ob,es,ep,k _ _ (.inl rfl) e,c⟩
 | set S n=>obtain⟨ob,es,ep,t,e,c⟩:=x;exact⟨ob,es,ep,t,k _ _ (.inl rfl) e,c⟩
 | ins C dx fs=>
  obtain⟨d,z,ne,e,mA,⟨od,es,ep,e2,c⟩,r⟩:=x
  exact⟨ho _ d,z,ne,k _ _ (.inl rfl) e,mA,⟨od,es,ep,k _ _ (.inr d) e2,c⟩,r⟩
 | own y=>obtain⟨ob,e⟩:=x;exact⟨ob,k _ _ (.inl rfl) e⟩
 | xd fs=>obtain⟨mA,⟨od,es,ep,e,c⟩,r⟩:=x;exact⟨mA,⟨od,es,ep,k _ _ (.inl rfl) e,c⟩,r⟩
 | rng lo hi=>obtain⟨t,u,v,e⟩:=x;exact⟨t,u,v,k _ _ (.inl rfl) e⟩
 | frz ob u ih=>obtain⟨e,q⟩:=x;exact⟨k _ _ (.inl rfl) e,ih q⟩
 | tbl ps=>
  have e:h.get? a=some { cls:=.none,data:=.fields ps }:=x
  show h'.get? a=some { cls:=.none,data:=.fields ps }
  exact k a _ (.inl rfl) e
 | met f y=>
  have e:h.get? a=some (PySem.W.methodObj (.ref f) (.ref y)):=x
  show h'.get? a=some (PySem.W.methodObj (.ref f) (.ref y))
  exact k a _ (.inl rfl) e
 | ext φ=>obtain⟨p,⟨o,e⟩,st⟩:=x;exact⟨st _ _ p fun o q=>k _ _ (.inl rfl) q,⟨o,k _ _ (.inl rfl) e⟩,st⟩
theorem HOk.lt (x:HOk P w H h) (e:H a=some o):a<h.objs.size:=(x a o e).lt
theorem HOk.fresh (x:HOk P w H h) (e:h.objs.size<=a):H a=none:=by
 cases q:H a with
 | none=>rfl
 | some u=>exact absurd (xn (x.lt q) e) (xO _)
theorem HOk.kept (x:HOk P w H h) (k:∀b u,h.get? b=some u->h'.get? b=some u):HOk P w H h':=fun a o e=>
 (x a o e).stay (fun b u _ q=>k b u q) (fun _ q=>q) fun _ _ q=>q
theorem HOk.laid (x:HOk P w H h) (k:∀b u,h.get? b=some u->h'.get? b=some u) (hp:h.objs.size<=a) (new:ObjOk P w (upd H a o) h' a o):HOk P w (upd H a o) h':=fun b u e=>by
 have hn:=x.fresh hp
 by_cases hb:b=a
 ·subst hb;rw[zA5]at e;cases e;exact new
 ·rw[zA3 hb]at e
  exact(x b u e).stay (fun c v _ q=>k c v q) (fun c q=>by rw[zA3 (zA2 q hn)];exact q) fun c xs q=>by rw[zA3 (zA2 q hn)];exact q
end
noncomputable def Rd (H:Hp) (a:Addr) (u:HO):Prop:=H a=some u\/∃o,H a=some (.frz o u)
theorem Rd.ok {P:Program}{w:World}{H:Hp}{h:Heap}{a:Addr}{u:HO}(r:Rd H a u) (x:HOk P w H h):ObjOk P w H h a u:=by
 rcases r with r|⟨o,r⟩
 ·exact x a u r
 ·obtain⟨_,q⟩:=x a _ r
  exact q
noncomputable def Mut:Option HO->Prop
 | some (.lst _)=>True
 | some (.dK _)=>True
 | some (.dT _)=>True
 | some (.set _ _)=>True
 | some (.ins _ _ _)=>True
 | some (.ext _)=>True
 | _=>False
section
variable {P:Program}{w:World}{H:Hp}{h h':Heap}{x e:Addr}{o':HO}
theorem HOk.write (ok:HOk P w H h) (mu:Mut (H x)) (he:e=x\/H e=some (.own x)) (k:∀b u,b≠e->h.get? b=some u->h'.get? b=some u) (heo:∃u,h'.get? e=some u)
  (new:ObjOk P w (upd H x o') h' x o'):HOk P w (upd H x o') h':=fun b u q=>by
 have nown:∀c y,H c=some (.own y)->c≠x:=fun c y r z=>by subst z;rw[r]at mu;exact mu
 have ntup:∀c xs,H c=some (.tup xs)->c≠x:=fun c xs r z=>by subst z;rw[r]at mu;exact mu
 by_cases hb:b=x
 ·subst hb;rw[zA5]at q;cases q;exact new
 ·rw[zA3 hb]at q
  by_cases hbe:b=e
  ·have q':H b=some (.own x):=by
    rcases he with z|z
    ·exact absurd (hbe.trans z) hb
    ·rw[hbe];exact z
   rw[q]at q';cases q'
   obtain⟨v,hv⟩:=heo
   exact⟨v,by rw[hbe];exact hv⟩
  ·refine(ok b u q).stay (fun c v hc r=>k c v ?_ r) (fun c r=>by rw[zA3 (nown c b r)];exact r) fun c xs r=>by rw[zA3 (ntup c xs r)];exact r
   rcases hc with rfl|hc
   ·exact hbe
   ·rintro rfl
    rcases he with z|z
    ·exact nown c b hc z
    ·rw[hc]at z;cases z;exact hb rfl
end
structure Un (fs ex:List Addr) (H H':Hp) (h h':Heap):Prop where
 keep:∀b o,h.get? b=some o->H b=none->b ∉ fs->b ∉ ex->h'.get? b=some o
 slot:∀b o,h.get? b=some o->H b=none->b∈fs->b ∉ ex->∃sl,h'.get? b=some { o with slots:=sl }
 free:∀b o,h.get? b=some o->H b=none->b ∉ ex->H' b=none
 there:∀b o,h.get? b=some o->b ∉ ex->∃o',h'.get? b=some o'
 tups:∀b xs,H b=some (.tup xs)->H' b=some (.tup xs)
 frzs:∀b o u,H b=some (.frz o u)->H' b=some (.frz o u)
 tbls:∀b ps,H b=some (.tbl ps)->∃more,H' b=some (.tbl (ps++more))
section
variable {fs fs' ex ex':List Addr}{H H1 H2:Hp}{h h1 h2 h':Heap}{a x e:Addr}{o:HO}
theorem Un.any (u:Un fs ex H H1 h h1) {b:Addr}{ob:Obj}(q:h.get? b=some ob) (n:H b=none) (hx:b ∉ ex):∃sl,h1.get? b=some { ob with slots:=sl }:=by
 by_cases hb:b∈fs
 ·exact u.slot b ob q n hb hx
 ·exact⟨ob.slots,u.keep b ob q n hb hx⟩
theorem Un.kept (k:∀b u,h.get? b=some u->h'.get? b=some u):Un fs ex H H h h':=
 ⟨fun b ob q _ _ _=>k b ob q,fun b ob q _ _ _=>⟨ob.slots,k b ob q⟩,fun _ _ _ n _=>n,fun b ob q _=>⟨ob,k b ob q⟩,fun _ _ q=>q,fun _ _ _ q=>q,fun _ ps q=>⟨#[],by rw[q];simp⟩⟩
theorem Un.refl:Un fs ex H H h h:=Un.kept fun _ _ q=>q
theorem Un.laid (k:∀b u,h.get? b=some u->h'.get? b=some u) (hp:h.objs.size<=a) (hn:H a=none):Un fs ex H (upd H a o) h h' where
 keep:=fun b u q _ _ _=>k b u q
 slot:=fun b u q _ _ _=>⟨u.slots,k b u q⟩
 free:=fun b u q n _=>by rw[zA3 (xo (xn (xi q) hp))];exact n
 there:=fun b u q _=>⟨u,k b u q⟩
 tups:=fun b xs q=>by rw[zA3 (zA2 q hn)];exact q
 frzs:=fun b u xs q=>by rw[zA3 (zA2 q hn)];exact q
 tbls:=fun b ps q=>⟨#[],by rw[zA3 (zA2 q hn),q];simp⟩
theorem Un.write (mu:Mut (H x)) (he:e=x\/H e=some (.own x)) (k:∀b u,b≠e->h.get? b=some u->h'.get? b=some u) (heo:∃u,h'.get? e=some u):Un fs ex H (upd H x o) h h':=by
 have hx:∀b,H b=none->b≠x:=fun b n z=>by subst z;rw[n]at mu;exact mu
 have hb:∀b,H b=none->b≠e:=fun b n z=>by
  subst z
  rcases he with r|r
  ·exact hx b n r
  ·rw[n]at r;cases r
 have hm:∀b u,H b=some u->¬ Mut (some u)->b≠x:=fun b u q nm z=>by subst z;rw[q]at mu;exact nm mu
 refine⟨fun b u q n _ _=>k b u (hb b n) q,fun b u q n _ _=>⟨u.slots,k b u (hb b n) q⟩,fun b u q n _=>by rw[zA3 (hx b n)];exact n,fun b u q _=>?_,
  fun b xs q=>by rw[zA3 (hm b _ q fun z=>z)];exact q,fun b u xs q=>by rw[zA3 (hm b _ q fun z=>z)];exact q,fun b ps q=>⟨#[],by rw[zA3 (hm b _ q fun z=>z),q];simp⟩⟩
 by_cases hbe:b=e
 ·subst hbe;exact heo
 ·exact⟨u,k b u hbe q⟩
end
noncomputable def trk (h:Heap) (H:Hp):List Addr:=(List.range h.objs.size).filter fun a=>(H a).isSome
noncomputable def hidT (h:Heap) (H:Hp):Heap:=PySem.W.hideAll h (trk h H)
theorem zHx (h:Heap) (H:Hp):(hidT h H).objs.size=h.objs.size:=PySem.W.hideAll_size _ _
theorem zKi {h:Heap}{H:Hp}{b:Addr}{o:Obj}(e:h.get? b=some o) (n:H b=none):(hidT h H).get? b=some o:=
 PySem.W.hideAll_get _ e fun hm=>by
  have q:(H b).isSome=true:=(List.mem_filter.mp hm).2
  rw[n]at q;simp at q
theorem zNc {h:Heap}{H:Hp}{b:Addr}{o:Obj}(e:(hidT h H).get? b=some o):h.get? b=some o/\H b=none:=by
 have e':h.get? b=some o:=PySem.W.of_hideAll (trk h H) e
 refine⟨e',?_⟩
 cases q:H b with
 | none=>rfl
 | some x=>
  have hm:b∈trk h H:=List.mem_filter.mpr ⟨List.mem_range.mpr (xi e'),by simp[q]⟩
  have z:(hidT h H).get? b=none:=PySem.W.hideAll_none (trk h H) hm
  rw[z]at e;cases e
noncomputable def zOv (g h:Heap) (L:Addr):List (Addr × Obj):=(List.range h.objs.size).filterMap fun a=>if a=L\/(g.get? a).isSome=true then none else(h.get? a).map fun o=>(a,o)
noncomputable def rest (g h:Heap) (L d:Addr):List (Addr × Obj):=(zOv g h L).filter fun p=>decide (p.1≠d)
end L2
namespace L2
open PySem PySem.Spec PyProof.Rows
structure Mod (K:PySem.W.Frag) (mg:Str->Option Value) (base:Heap):Prop where
 kin:K.In base
 glob:base.Ns mainGlobals mg
 blt:∃mb,base.Ns builtinsNs mb/\∀x:Str,x≠"__name__"->mb x=bootBuiltins x
 nolimit:base.NoLimit
/-- the context: a def's body (or a comprehension's block) running. base: fixed through the whole law;s₀,H₀: the entry;outer: the frames whose slots others may change (a def's callers);stack: all frames that run;
   ex: iterators that were made ahead of the entry and are walked here (a comprehension's);fn: the names whose cells were made at the entry (a def: all;a comprehension's block: its own);calm: not within an except suite;pn: pins that every state bears;xe: what is wanted of an exception that leaves the code -/
structure Cx where
  prog:Program
  w:World
  K:PySem.W.Frag
  mg:Str->Option Value
  base:Heap
  A:Around
  N:List Str
  s₀:Shared
  H₀:Hp
  env:Env
  outer:List Env
  stack:List Env
  ex:List Addr
  fn:Str->Bool
  calm:Bool
  pn:List (Addr × Obj)
  xe:Value->Shared->Prop
noncomputable def frs (l:List Env):List Addr:=l.filterMap (·.frame)
noncomputable abbrev Cx.fs (X:Cx):List Addr:=frs X.outer
noncomputable def Vis (sc:Scope) (x:Str):Prop:=sc.names.lookup x=some .local\/sc.names.lookup x=some .cell\/sc.names.lookup x=some .free
noncomputable def Loc (sc:Scope) (x:Str):Prop:=sc.names.lookup x=some .local\/sc.names.lookup x=some .cell
noncomputable def Look (env:Env) (h:Heap) (m:Str->Option Value) (x:Str) (u:Value):Prop:=
 (env.kindOf x=some .local/\m x=some u)\/((env.kindOf x=some .cell\/env.kindOf x=some .free)/\∃c,env.cells.lookup x=some c/\h.IsCell c (some u))
structure Cx.Ok (X:Cx):Prop where
 mod:Mod X.K X.mg X.base
 kind:X.env.scope.kind=.function
 glob:X.env.globals=mainGlobals
 blt:X.env.builtins=builtinsNs
 above:X.s₀.heap.objs.size<=X.env.locals
 inj:∀x y c,X.env.cells.lookup x=some c->X.env.cells.lookup y=some c->x=y
 has:∀x,(X.env.kindOf x=some .cell\/X.env.kindOf x=some .free)->∃c,X.env.cells.lookup x=some c
 cab:∀x c,X.fn x=true->X.env.cells.lookup x=some c->X.s₀.heap.objs.size<=c
 hd:X.calm=true->X.A.handled=none
 frames:X.A.frames=some X.stack
 stk:X.stack=X.outer\/(X.stack=X.env::X.outer/\X.env.frame=some X.env.locals)
 exf:∀b∈X.ex,b≠X.env.locals/\∀x c,X.env.cells.lookup x=some c->c≠b
 bs:∀b o,X.base.get? b=some o->X.s₀.heap.get? b=some o/\X.H₀ b=none
 bsz:X.base.objs.size<=X.s₀.heap.objs.size
 noex:∀b o,X.base.get? b=some o->b ∉ X.ex
 exfs:∀b∈X.ex,b ∉ X.fs
 funs:X.s₀.heap.FunFrames X.base X.outer
 frf:∀b∈X.fs,X.H₀ b=none
 gds:X.A.guards=some []
structure Inv (X:Cx) (pins:List (Addr × Obj)) (σ:List (Option V)) (H:Hp) (s:Shared):Prop where
 ok:X.Ok
 os:s.os=X.s₀.os
 bare:AllBare s.gens
 base:Un X.fs X.ex X.H₀ H X.s₀.heap s.heap
 loc:∃m,s.heap.Ns X.env.locals m/\∀(i:Nat) (x:Str) (v:V),X.N[i]?=some x->σ[i]?=some (some v)->Vis X.env.scope x->∃u,RelV v u/\Look X.env s.heap m x u
 cell:∀x c,X.env.cells.lookup x=some c->∃v,s.heap.IsCell c v
 free:H X.env.locals=none
 freeC:∀x c,X.env.cells.lookup x=some c->H c=none
 pin:∀p∈X.pn++pins,s.heap.get? p.1=some p.2/\H p.1=none/\p.1≠X.env.locals/\p.1 ∉ X.fs/\∀v,p.2.data≠.cell v
 hok:HOk X.prog X.w H s.heap
 len:σ.length=X.N.length
section
variable {X:Cx}{pins:List (Addr × Obj)}{σ:List (Option V)}{H H':Hp}{s:Shared}{h':Heap}
theorem Cx.Ok.nofr (ok:X.Ok) {b:Addr}{o:Obj}(e:X.base.get? b=some o):b ∉ X.fs:=fun hb=>by
 have:=(ok.funs.mem hb).1
 rw[e]at this;cases this
theorem Inv.bs (I:Inv X pins σ H s):∀b o,X.base.get? b=some o->s.heap.get? b=some o/\H b=none:=fun b o e=>
 ⟨I.base.keep b o (I.ok.bs b o e).1 (I.ok.bs b o e).2 (I.ok.nofr e) (I.ok.noex b o e),I.base.free b o (I.ok.bs b o e).1 (I.ok.bs b o e).2 (I.ok.noex b o e)⟩
theorem Inv.bk (I:Inv X pins σ H s):∀b o,X.base.get? b=some o->s.heap.get? b=some o:=fun b o e=>(I.bs b o e).1
theorem Inv.mod (I:Inv X pins σ H s):Mod X.K X.mg X.base:=I.ok.mod
theorem Inv.kIn (I:Inv X pins σ H s):X.K.In s.heap:=I.ok.mod.kin.keeps I.bk
theorem Inv.lt (I:Inv X pins σ H s):X.env.locals<s.heap.objs.size:=let ⟨_,hn,_⟩:=I.loc;hn.lt
theorem Inv.sz (I:Inv X pins σ H s):X.s₀.heap.objs.size<=s.heap.objs.size:=xq I.ok.above (Nat.le_of_lt I.lt)
theorem Inv.nofs (I:Inv X pins σ H s) {a:Addr}(h:s.heap.objs.size<=a):a ∉ X.fs:=fun hb=>by
 obtain⟨_,o,ho,_⟩:=I.ok.funs.mem hb
 exact absurd (xn (xi ho) (xq I.sz h)) (xO _)
theorem Inv.cne (I:Inv X pins σ H s):∀x c,X.env.cells.lookup x=some c->c≠X.env.locals:=fun x c e z=>by
 obtain⟨v,o,ho,hd⟩:=I.cell x c e
 obtain⟨m,⟨o',es,ep,ho',hd',_⟩,_⟩:=I.loc
 rw[z,ho']at ho;cases ho;rw[hd']at hd;cases hd
theorem Inv.funs (I:Inv X pins σ H s):s.heap.FunFrames X.base X.outer:=by
 have all:∀(l:List Env),(∀b∈frs l,b∈X.fs)->X.s₀.heap.FunFrames X.base l->s.heap.FunFrames X.base l:=by
  intro l
  induction l with
  | nil=>intro _ _;trivial
  | cons env r ih=>
   intro hs hl
   obtain⟨hk,⟨L,o,hf,hn,ho,hd⟩,hr⟩:=hl
   have hL:L∈X.fs:=hs L (by unfold frs;rw[vL,hf];exact xP)
   obtain⟨sl,e⟩:=I.base.slot L o ho (I.ok.frf L hL) hL fun z=>I.ok.exfs L z hL
   exact⟨hk,⟨L,_,hf,hn,e,hd⟩,ih (fun b hb=>hs b (by unfold frs;rw[vL,hf];exact xS _ hb)) hr⟩
 exact all X.outer (fun _ hb=>hb) I.ok.funs
theorem Inv.stack (I:Inv X pins σ H s):s.heap.FunFrames X.base X.stack:=by
 rcases I.ok.stk with e|⟨e,hf⟩
 ·rw[e];exact I.funs
 ·rw[e]
  obtain⟨m,hn,_⟩:=I.loc
  refine .cons (by rw[I.ok.kind];decide) hf hn ?_ I.funs
  exact vF (xq I.ok.bsz I.ok.above)
theorem Inv.stkSub (I:Inv X pins σ H s):∀b∈frs X.stack,b∈X.env.locals::X.fs:=fun b hb=>by
 rcases I.ok.stk with e|⟨e,hf⟩
 ·rw[e]at hb;exact xS _ hb
 ·rw[e]at hb
  unfold frs at hb
  rw[vL,hf]at hb
  exact hb
theorem Inv.stkFree (I:Inv X pins σ H s):∀b∈frs X.stack,H b=none:=fun b hb=>by
 rcases xC.mp (I.stkSub b hb)with e|hb
 ·rw[e];exact I.free
 ·obtain⟨_,o,ho,_⟩:=I.ok.funs.mem hb
  exact I.base.free b o ho (I.ok.frf b hb) fun z=>I.ok.exfs b z hb
theorem Inv.step {g':Array GenState}{t':Nat}{d':Drawn}{ch:List Addr}(I:Inv X pins σ H s)
  (hch:∀b∈ch,(b∈X.ex\/X.s₀.heap.objs.size<=b)/\b≠X.env.locals/\(∀x c,X.env.cells.lookup x=some c->c≠b)/\∀p∈X.pn++pins,p.1≠b)
  (keep:∀b o,b≠X.env.locals->b ∉ X.fs->b ∉ ch->s.heap.get? b=some o->H b=none->h'.get? b=some o)
  (slot:∀b o,b≠X.env.locals->b∈X.fs->b ∉ ch->s.heap.get? b=some o->H b=none->∃sl,h'.get? b=some { o with slots:=sl }) (free:∀b o,b ∉ ch->s.heap.get? b=some o->H b=none->H' b=none)
  (there:∀b o,b ∉ ch->s.heap.get? b=some o->∃o',h'.get? b=some o')
  (tups:∀b xs,H b=some (.tup xs)->H' b=some (.tup xs)) (frzs:∀b o u,H b=some (.frz o u)->H' b=some (.frz o u)) (tbls:∀b ps,H b=some (.tbl ps)->∃more,H' b=some (.tbl (ps++more)))
  (ns:∀m,s.heap.Ns X.env.locals m->h'.Ns X.env.locals m) (hok:HOk X.prog X.w H' h') (hg:AllBare g'):
  Inv X pins σ H' { s with heap:=h',gens:=g',drawn:=d',toks:=t' }:=by
 have neL:∀b o,X.s₀.heap.get? b=some o->b≠X.env.locals:=fun b o e=>xo (xn (xi e) I.ok.above)
 have neC:∀b o,X.s₀.heap.get? b=some o->b ∉ X.ex->b ∉ ch:=fun b o e hx hb=>by
  rcases(hch b hb).1 with z|z
  ·exact hx z
  ·exact absurd (xn (xi e) z) (xO _)
 have cellK:∀x c,X.env.cells.lookup x=some c->∀v,s.heap.IsCell c v->h'.IsCell c v:=fun x c e v hq1=>by
  obtain⟨o,ho,hd⟩:=hq1
  have nch:c ∉ ch:=fun z=>(hch c z).2.2.1 x c e rfl
  by_cases hc:c∈X.fs
  ·obtain⟨sl,q⟩:=slot c o (I.cne x c e) hc nch ho (I.freeC x c e)
   exact⟨_,q,hd⟩
  ·exact⟨o,keep c o (I.cne x c e) hc nch ho (I.freeC x c e),hd⟩
 refine⟨I.ok,I.os,hg,⟨fun b o e n hb hx=>?_,fun b o e n hb hx=>?_,fun b o e n hx=>?_,fun b o e hx=>?_,fun b xs e=>tups b xs (I.base.tups b xs e),fun b o xs e=>frzs b o xs (I.base.frzs b o xs e),fun b ps e=>?_⟩,?_,fun x c e=>?_,?_,fun x c e=>?_,fun p hp=>?_,hok,I.len⟩
 ·exact keep b o (neL b o e) hb (neC b o e hx) (I.base.keep b o e n hb hx) (I.base.free b o e n hx)
 ·obtain⟨sl,e1⟩:=I.base.slot b o e n hb hx
  obtain⟨sl',e2⟩:=slot b _ (neL b o e) hb (neC b o e hx) e1 (I.base.free b o e n hx)
  exact⟨sl',e2⟩
 ·obtain⟨o',e1⟩:=I.base.there b o e hx
  exact free b o' (neC b o e hx) e1 (I.base.free b o e n hx)
 ·obtain⟨o',e1⟩:=I.base.there b o e hx
  exact there b o' (neC b o e hx) e1
 ·obtain⟨m1,e1⟩:=I.base.tbls b ps e
  obtain⟨m2,e2⟩:=tbls b _ e1
  exact⟨m1++m2,by rw[e2,Array.append_assoc]⟩
 ·obtain⟨m,hn,hl⟩:=I.loc
  refine⟨m,ns m hn,fun i x v e1 e2 e3=>?_⟩
  obtain⟨u,r,l⟩:=hl i x v e1 e2 e3
  refine⟨u,r,?_⟩
  rcases l with l|⟨k,c,e,z⟩
  ·exact .inl l
  ·exact .inr ⟨k,c,e,cellK x c e _ z⟩
 ·obtain⟨v,z⟩:=I.cell x c e
  exact⟨v,cellK x c e v z⟩
 ·obtain⟨m,⟨o,_,_,ho,_⟩,_⟩:=I.loc
  exact free _ o (fun z=>(hch _ z).2.1 rfl) ho I.free
 ·obtain⟨v,o,ho,hd⟩:=I.cell x c e
  exact free c o (fun z=>(hch c z).2.2.1 x c e rfl) ho (I.freeC x c e)
 ·obtain⟨e,n,ne,nf,d⟩:=I.pin p hp
  have nch:p.1 ∉ ch:=fun z=>(hch p.1 z).2.2.2 p hp rfl
  exact⟨keep p.1 p.2 ne nf nch e n,free p.1 p.2 nch e n,ne,nf,d⟩
theorem Inv.un {t':Nat}(I:Inv X pins σ H s) (u:Un X.fs [] H H' s.heap h') (hok:HOk X.prog X.w H' h'):Inv X pins σ H' { s with heap:=h',toks:=t' }:=by
 obtain⟨m,⟨o,es,ep,ho,r⟩,_⟩:=id I.loc
 obtain⟨sl,hL⟩:=u.any ho I.free (by simp)
 exact I.step (g':=s.gens) (d':=s.drawn) (ch:=[]) (fun _ z=>nomatch z) (fun b o _ hb _ e n=>u.keep b o e n hb (by simp)) (fun b o _ hb _ e n=>u.slot b o e n hb (by simp)) (fun b o _ e n=>u.free b o e n (by simp)) (fun b o _ e=>u.there b o e (by simp)) u.tups u.frzs u.tbls (fun m' hm=>by
  obtain⟨o',es',ep',ho',r'⟩:=hm
  rw[ho]at ho';cases ho'
  exact⟨_,es',ep',hL,r'⟩) hok I.bare
theorem Inv.call {g':Array GenState}{t':Nat}{d':Drawn}{ch:List Addr}(I:Inv X pins σ H s) (u:Un (frs X.stack) ch H H' s.heap h') (hok:HOk X.prog X.w H' h') (hg:AllBare g')
  (hch:∀b∈ch,(b∈X.ex\/X.s₀.heap.objs.size<=b)/\b≠X.env.locals/\(∀x c,X.env.cells.lookup x=some c->c≠b)/\∀p∈X.pn++pins,p.1≠b):
  Inv X pins σ H' { s with heap:=h',gens:=g',drawn:=d',toks:=t' }:=by
 obtain⟨m,⟨o,es,ep,ho,r⟩,_⟩:=id I.loc
 obtain⟨sl,hL⟩:=u.any ho I.free fun z=>(hch _ z).2.1 rfl
 exact I.step (ch:=ch) hch (fun b o hL hb hc e n=>u.keep b o e n (fun z=>(xC.mp (I.stkSub b z)).elim hL hb) hc) (fun b o _ _ hc e n=>u.any e n hc) (fun b o hc e n=>u.free b o e n hc) (fun b o hc e=>u.there b o e hc) u.tups u.frzs u.tbls (fun m' hm=>by
  obtain⟨o',es',ep',ho',r'⟩:=hm
  rw[ho]at ho';cases ho'
  exact⟨_,es',ep',hL,r'⟩) hok hg
theorem Inv.turned {t':Nat}{it:Addr}(I:Inv X pins σ H s) (k:∀b o,b≠it->s.heap.get? b=some o->h'.get? b=some o) (hn:H it=none) (hL:it≠X.env.locals)
  (h1:it∈X.ex\/X.s₀.heap.objs.size<=it) (h2:∀x c,X.env.cells.lookup x=some c->c≠it) (h3:∀p∈X.pn++pins,p.1≠it):Inv X pins σ H { s with heap:=h',toks:=t' }:=by
 have nit:∀b u,H b=some u->b≠it:=fun b u e z=>by rw[z,hn]at e;cases e
 refine I.step (g':=s.gens) (d':=s.drawn) (ch:=[it]) (fun b hb=>?_) (fun b o _ _ hc e _=>k b o (fun z=>hc (by simp[z])) e) (fun b o _ _ hc e _=>⟨o.slots,k b o (fun z=>hc (by simp[z])) e⟩) (fun _ _ _ _ n=>n)
  (fun b o hc e=>⟨o,k b o (fun z=>hc (by simp[z])) e⟩) (fun _ _ e=>e) (fun _ _ _ e=>e) (fun b ps e=>⟨#[],by rw[e];simp⟩) (fun m hm=>?_) (fun b u e=>?_) I.bare
 ·have e:b=it:=by simpa using hb
  subst e
  exact⟨h1,hL,h2,h3⟩
 ·obtain⟨o,es,ep,ho,r⟩:=hm
  exact⟨o,es,ep,k _ o (xk hL) ho,r⟩
 ·refine(I.hok b u e).stay (fun c v hc q=>k c v ?_ q) (fun _ q=>q) fun _ _ q=>q
  rcases hc with z|z
  ·rw[z];exact nit b u e
  ·exact nit c _ z
theorem Inv.tok (I:Inv X pins σ H s) (t:Nat):Inv X pins σ H { s with toks:=t }:=I.un (h':=s.heap) (t':=t) Un.refl I.hok
theorem Inv.kept {t':Nat}(I:Inv X pins σ H s) (k:∀b u,s.heap.get? b=some u->h'.get? b=some u):Inv X pins σ H { s with heap:=h',toks:=t' }:=I.un (Un.kept k) (I.hok.kept k)
theorem Inv.laid {a:Addr}{o:HO}{t':Nat}(I:Inv X pins σ H s) (k:∀b u,s.heap.get? b=some u->h'.get? b=some u) (hp:s.heap.objs.size<=a) (new:ObjOk X.prog X.w (upd H a o) h' a o):
  Inv X pins σ (upd H a o) { s with heap:=h',toks:=t' }:=I.un (Un.laid k hp (I.hok.fresh hp)) (I.hok.laid k hp new)
theorem Inv.write {x e:Addr}{o:HO}{t':Nat}(I:Inv X pins σ H s) (mu:Mut (H x)) (he:e=x\/H e=some (.own x)) (k:∀b u,b≠e->s.heap.get? b=some u->h'.get? b=some u) (heo:∃u,h'.get? e=some u)
  (new:ObjOk X.prog X.w (upd H x o) h' x o):Inv X pins σ (upd H x o) { s with heap:=h',toks:=t' }:=I.un (Un.write mu he k heo) (I.hok.write mu he k heo new)
theorem Inv.pins_of {pins':List (Addr × Obj)}(I:Inv X pins σ H s) (h:∀p∈pins',s.heap.get? p.1=some p.2/\H p.1=none/\p.1≠X.env.locals/\p.1 ∉ X.fs/\∀v,p.2.data≠.cell v):Inv X pins' σ H s:=
 ⟨I.ok,I.os,I.bare,I.base,I.loc,I.cell,I.free,I.freeC,fun p hp=>(List.mem_append.mp hp).elim (fun z=>I.pin p (vM _ z)) (h p),I.hok,I.len⟩
theorem zFa {N:List Str}(hN:N.Nodup) {i j:Nat}{x:Str}(a:N[i]?=some x) (b:N[j]?=some x):i=j:=by
 obtain⟨h1,e1⟩:=xu.mp a
 obtain⟨h2,e2⟩:=xu.mp b
 exact(List.getElem_inj hN).mp (e1.trans e2.symm)
theorem zDn {M:Model}{A:Around}{E:Value->Shared->Prop}{i:Nat}{x:Str}{v:V}{u:Value}{Q:Unit->Shared->Prop}(I:Inv X pins σ H s) (hN:X.N.Nodup) (hi:X.N[i]?=some x) (hx:Loc X.env.scope x) (r:RelV v u)
  (h:∀s',Inv X pins (σ.set i (some v)) H s'->(∃a,Heap.SameBut a s.heap s'.heap/\(a=X.env.locals\/X.env.cells.lookup x=some a))->Q () s') (hf:X.fn x=true\/X.env.scope.names.lookup x=some .local:=by first|exact .inl rfl|exact .inr rfl|assumption):wpAny M A (storeName X.env x u) Q E s:=by
 obtain⟨m,hn,hl⟩:=id I.loc
 have hcls:(X.env.scope.kind == .class || (X.env.scope.kind == .module && X.env.locals != X.env.globals))=false:=by rw[I.ok.kind];rfl
 have hiσ:i<σ.length:=by rw[I.len];exact(xu.mp hi).1
 have cne:=I.cne
 have tracked:∀{a:Addr}{h':Heap},(∃o,s.heap.get? a=some o/\H a=none)->Heap.SameBut a s.heap h'->HOk X.prog X.w H h':=fun {a h'} ha hs b ob e=>by
  obtain⟨_,_,hfree⟩:=ha
  refine(I.hok b ob e).stay (fun c w' hc q=>(hs.2 c ?_).trans q) (fun _ q=>q) fun _ _ q=>q
  rintro rfl
  rcases hc with rfl|hc
  ·rw[hfree]at e;cases e
  ·rw[hfree]at hc;cases hc
 rcases hx with hk|hk
 ·refine wpAny_storeName_local hk hn (fun h' hn' hs=>?_) hcls
  obtain⟨oL,_,_,hoL,_⟩:=id hn
  refine h _ ⟨I.ok,I.os,I.bare,⟨fun b o e n hb hx=>?_,fun b o e n hb hx=>?_,I.base.free,fun b o e hx=>?_,I.base.tups,I.base.frzs,I.base.tbls⟩,⟨_,hn',fun j y v' e1 e2 e3=>?_⟩,fun y c e=>?_,I.free,I.freeC,fun p hp=>?_,tracked ⟨oL,hoL,I.free⟩ hs,by simpa using I.len⟩ ⟨_,hs,.inl rfl⟩
  ·exact(hs.2 b (xo (xn (xi e) I.ok.above))).trans (I.base.keep b o e n hb hx)
  ·obtain⟨sl,e1⟩:=I.base.slot b o e n hb hx
   exact⟨sl,(hs.2 b (xo (xn (xi e) I.ok.above))).trans e1⟩
  ·obtain⟨o',e1⟩:=I.base.there b o e hx
   exact⟨o',(hs.2 b (xo (xn (xi e) I.ok.above))).trans e1⟩
  ·by_cases hj:j=i
   ·subst hj
    rw[hi]at e1;cases e1
    rw[xF hiσ]at e2
    cases e2
    exact⟨u,r,.inl ⟨hk,by simp⟩⟩
   ·rw[xr (xk hj)]at e2
    obtain⟨u',r',q⟩:=hl j y v' e1 e2 e3
    refine⟨u',r',?_⟩
    rcases q with⟨k,e⟩|⟨k,c,e,z⟩
    ·refine .inl ⟨k,?_⟩
     have:y≠x:=fun e=>hj (zFa hN e1 (e ▸ hi))
     simp[this,e]
    ·exact .inr ⟨k,c,e,z.sameBut hs (cne y c e)⟩
  ·obtain⟨w',z⟩:=I.cell y c e
   exact⟨w',z.sameBut hs (cne y c e)⟩
  ·obtain⟨e,n,ne,nf,d⟩:=I.pin p hp
   exact⟨(hs.2 p.1 ne).trans e,n,ne,nf,d⟩
 ·have hfn:X.fn x=true:=by
   rcases hf with z|z
   ·exact z
   ·rw[z]at hk;cases hk
  obtain⟨c,hc⟩:=I.ok.has x (.inl hk)
  obtain⟨w',z⟩:=I.cell x c hc
  refine wpAny_storeName_cell I.ok.kind hk hc z (fun h' hc' hs=>?_)
  obtain⟨oc,hoc,hocd⟩:=id z
  refine h { s with heap:=h' } ⟨I.ok,I.os,I.bare,⟨fun b o e n hb hx=>?_,fun b o e n hb hx=>?_,I.base.free,fun b o e hx=>?_,I.base.tups,I.base.frzs,I.base.tbls⟩,⟨m,hn.sameBut hs (xk (cne x c hc)),fun j y v' e1 e2 e3=>?_⟩,fun y c' e=>?_,I.free,I.freeC,fun p hp=>?_,tracked ⟨oc,hoc,I.freeC x c hc⟩ hs,by simpa using I.len⟩ ⟨c,hs,.inr hc⟩
  ·exact(hs.2 b (xo (xn (xi e) (I.ok.cab x c hfn hc)))).trans (I.base.keep b o e n hb hx)
  ·obtain⟨sl,e1⟩:=I.base.slot b o e n hb hx
   exact⟨sl,(hs.2 b (xo (xn (xi e) (I.ok.cab x c hfn hc)))).trans e1⟩
  ·obtain⟨o',e1⟩:=I.base.there b o e hx
   exact⟨o',(hs.2 b (xo (xn (xi e) (I.ok.cab x c hfn hc)))).trans e1⟩
  ·by_cases hj:j=i
   ·subst hj
    rw[hi]at e1;cases e1
    rw[xF hiσ]at e2
    cases e2
    exact⟨u,r,.inr ⟨.inl hk,c,hc,hc'⟩⟩
   ·rw[xr (xk hj)]at e2
    obtain⟨u',r',q⟩:=hl j y v' e1 e2 e3
    refine⟨u',r',?_⟩
    rcases q with q|⟨k,c',e,z'⟩
    ·exact .inl q
    ·refine .inr ⟨k,c',e,z'.sameBut hs ?_⟩
     rintro rfl
     exact hj (zFa hN e1 (I.ok.inj _ _ _ e hc ▸ hi))
  ·by_cases hcc:c'=c
   ·subst hcc;exact⟨_,hc'⟩
   ·obtain⟨w2,z2⟩:=I.cell y c' e
    exact⟨w2,z2.sameBut hs hcc⟩
  ·obtain⟨e,n,ne,nf,d⟩:=I.pin p hp
   refine⟨(hs.2 p.1 ?_).trans e,n,ne,nf,d⟩
   intro q
   rw[q,hoc]at e
   have q':oc=p.2:=xY e
   exact d w' (by rw[<- q'];exact hocd)
theorem zBg {M:Model}{A:Around}{E:Value->Shared->Prop}{i:Nat}{x:Str}{v:V}{u:Value}{Q:Unit->Shared->Prop}(I:Inv X pins σ H s) (hN:X.N.Nodup) (hi:X.N[i]?=some x) (hx:Loc X.env.scope x) (r:RelV v u)
  (h:∀s',Inv X pins (σ.set i (some v)) H s'->Q () s') (hf:X.fn x=true\/X.env.scope.names.lookup x=some .local:=by first|exact .inl rfl|exact .inr rfl|assumption):wpAny M A (storeName X.env x u) Q E s:=
 zDn I hN hi hx r (fun s' I' _=>h s' I') hf
theorem Inv.call' {s':Shared}{ch:List Addr}(I:Inv X pins σ H s) (ho:s'.os=s.os) (u:Un (frs X.stack) ch H H' s.heap s'.heap) (hok:HOk X.prog X.w H' s'.heap) (hg:AllBare s'.gens)
  (hch:∀b∈ch,(b∈X.ex\/X.s₀.heap.objs.size<=b)/\b≠X.env.locals/\(∀x c,X.env.cells.lookup x=some c->c≠b)/\∀p∈X.pn++pins,p.1≠b):Inv X pins σ H' s':=by
 obtain⟨h',g',d',t',o'⟩:=s'
 have e:o'=s.os:=ho
 subst e
 exact I.call (g':=g') (t':=t') (d':=d') u hok hg hch
end
noncomputable abbrev XK:=Value->Option Addr->Hp->Prop
noncomputable abbrev St:=List (Option V)
noncomputable abbrev VK:=V->Hp->Prop
noncomputable abbrev TE:=St->Hp->VK->Prop
noncomputable abbrev TT:=St->Hp->(Bool->Hp->Prop)->Prop
noncomputable abbrev TA:=St->Hp->(List V->Hp->Prop)->Prop
structure Ends where
 nx:St->Hp->Prop
 rt:VK
 bk:St->Hp->Prop:=fun _ _=>False
 ct:St->Hp->Prop:=fun _ _=>False
noncomputable abbrev TS:=Ends->St->Hp->Prop
noncomputable def EP (X:Cx) (pins:List (Addr × Obj)) (σ:St) (Q:VK) (u:Value) (s':Shared):Prop:=∃v H',Inv X pins σ H' s'/\RelV v u/\Q v H'
noncomputable def TP (X:Cx) (pins:List (Addr × Obj)) (σ:St) (Q:Bool->Hp->Prop) (b:Bool) (s':Shared):Prop:=∃H',Inv X pins σ H' s'/\Q b H'
noncomputable def AP (X:Cx) (pins:List (Addr × Obj)) (σ:St) (Q:List V->Hp->Prop) (us:List Value) (s':Shared):Prop:=∃vs H',Inv X pins σ H' s'/\Vals vs us/\Q vs H'
noncomputable def SP (X:Cx) (pins:List (Addr × Obj)) (D:Ends) (f:Flow) (s':Shared):Prop:=
 match f with
 | .next=>∃σ' H',Inv X pins σ' H' s'/\D.nx σ' H'
 | .brk=>∃σ' H',Inv X pins σ' H' s'/\D.bk σ' H'
 | .cont=>∃σ' H',Inv X pins σ' H' s'/\D.ct σ' H'
 | .ret u=>∃v σ' H',Inv X pins σ' H' s'/\RelV v u/\D.rt v H'
noncomputable def PE (X:Cx) (e:Expr) (t:TE):Prop:=
 ∀(pins:List (Addr × Obj)) (s:Shared) (σ:St) (H:Hp) (Q:VK),Inv X pins σ H s->t σ H Q->wpAny (model X.prog X.w) X.A (eval e X.env) (EP X pins σ Q) X.xe s
noncomputable def PT (X:Cx) (e:Expr) (t:TT):Prop:=
 ∀(pins:List (Addr × Obj)) (s:Shared) (σ:St) (H:Hp) (Q:Bool->Hp->Prop),Inv X pins σ H s->t σ H Q->wpAny (model X.prog X.w) X.A (isTrue e X.env (eval e X.env)) (TP X pins σ Q) X.xe s
noncomputable def PW (X:Cx) (e:Expr) (t:TT):Prop:=
 ∀(whole:Sem Value) (pins:List (Addr × Obj)) (s:Shared) (σ:St) (H:Hp) (Q:Bool->Hp->Prop),Inv X pins σ H s->t σ H Q->wpAny (model X.prog X.w) X.A (isTrue e X.env whole) (TP X pins σ Q) X.xe s
theorem PW.pt {X:Cx}{e:Expr}{t:TT}(h:PW X e t):PT X e t:=h _
noncomputable def PA (X:Cx) (es:List Expr) (t:TA):Prop:=
 ∀(pos:Pos) (pins:List (Addr × Obj)) (s:Shared) (σ:St) (H:Hp) (Q:List V->Hp->Prop),Inv X pins σ H s->t σ H Q->wpAny (model X.prog X.w) X.A (spliced (backTo pos (starEach es X.env))) (AP X pins σ Q) X.xe s
noncomputable def PS (X:Cx) (st:Stmt) (t:TS):Prop:=
 ∀(pins:List (Addr × Obj)) (s:Shared) (σ:St) (H:Hp) (D:Ends),Inv X pins σ H s->t D σ H->wpAny (model X.prog X.w) X.A (exec st X.env) (SP X pins D) X.xe s
noncomputable def PSs (X:Cx) (st:List Stmt) (t:TS):Prop:=
 ∀(pins:List (Addr × Obj)) (s:Shared) (σ:St) (H:Hp) (D:Ends),Inv X pins σ H s->t D σ H->wpAny (model X.prog X.w) X.A (execs st X.env) (SP X pins D) X.xe s
theorem thn {α:Type}{t:Sem α}{Q Q':α->Shared->Prop}{M:Model}{A:Around}{E:Value->Shared->Prop}{s:Shared}(h:wpAny M A t Q E s) (hQ:∀a s,Q a s->Q' a s):wpAny M A t Q' E s:=xw h hQ fun _ _ x=>x
end L2
namespace L2
open PySem PySem.Spec PyProof.Rows
section
variable {X:Cx}
noncomputable def tVar (i:Nat):TE:=fun σ H Q=>∃v,σ[i]?=some (some v)/\Q v H
noncomputable def tC (v:V):TE:=fun _ H Q=>Q v H
theorem zPn {i:Nat}{x:Str}{pos:Pos}(hN:X.N[i]?=some x) (hv:Vis X.env.scope x) (hd:(x == ("__debug__":Str))=false:=by decide) (hcd:(x == ("__classdict__":Str))=false:=by decide):PE X (.Name x pos) (tVar i):=by
 intro pins s σ H Q I h
 obtain⟨v,e,h⟩:=h
 obtain⟨m,hn,hl⟩:=I.loc
 obtain⟨u,r,l⟩:=hl i x v hN e hv
 have fin:EP X pins σ Q u s:=⟨v,H,I,r,h⟩
 rcases l with⟨hk,hm⟩|⟨hk,c,hc,hcell⟩
 ·exact wpAny_Name (wpAny_loadName_local I.ok.kind hk hn hm fin) hd
 ·rcases hk with hk|hk
  ·exact wpAny_Name (wpAny_loadName_cell I.ok.kind hk hc hcell fin) hd
  ·exact wpAny_Name (wpAny_loadName_free I.ok.kind hk hc hcell fin hcd) hd
theorem zPs {i j pos}:PE X (.Constant (.int i) j pos) (tC (.int i)):=fun _ _ _ H _ I h=>wpAny_Constant_int ⟨.int i,H,I.tok _,⟨_,rfl⟩,h⟩
theorem zS0 {b j pos}:PE X (.Constant (.bool b) j pos) (tC (.bl b)):=fun _ _ _ H _ I h=>Constant_bool ⟨.bl b,H,I,rfl,h⟩
theorem zPq {j pos}:PE X (.Constant .none j pos) (tC .non):=fun _ _ _ H _ I h=>Constant_none ⟨.non,H,I,rfl,h⟩
theorem zPp {x j pos}:PE X (.Constant (.str x) j pos) (tC (.str x)):=fun _ _ _ H _ I h=>Calls.Constant_str ⟨.str x,H,I.tok _,⟨_,rfl⟩,h⟩
noncomputable def Gl (X:Cx) (x:Str):Prop:=X.env.kindOf x=some .globalImplicit
theorem zCb {E:Value->Shared->Prop}{pins:List (Addr × Obj)}{s:Shared}{σ:St}{H:Hp}{x:Str}{u:Value}{pos:Pos}{Q:Value->Shared->Prop}(I:Inv X pins σ H s) (hg:Gl X x) (hm:X.mg x=some u) (h:Q u s)
  (hd:(x == ("__debug__":Str))=false:=by decide):wpAny (model X.prog X.w) X.A (eval (.Name x pos) X.env) Q E s:=
 Calls.Name_function_global I.ok.kind hg (Calls.loadGlobal_global (by rw[I.ok.glob];exact I.mod.glob.keeps I.bk) hm h) hd
theorem zDv {E:Value->Shared->Prop}{pins:List (Addr × Obj)}{s:Shared}{σ:St}{H:Hp}{x:Str}{u:Value}{pos:Pos}{Q:Value->Shared->Prop}(I:Inv X pins σ H s) (hg:Gl X x) (hm:X.mg x=none) (hv:bootBuiltins x=some u) (h:Q u s)
  (hn:x≠"__name__":=by decide) (hd:(x == ("__debug__":Str))=false:=by decide):wpAny (model X.prog X.w) X.A (eval (.Name x pos) X.env) Q E s:=by
 obtain⟨mb,h1,h2⟩:=I.mod.blt
 exact Calls.Name_function_global I.ok.kind hg (Calls.loadGlobal_builtin (by rw[I.ok.glob];exact I.mod.glob.keeps I.bk) hm (by rw[I.ok.blt];exact h1.keeps I.bk) ((h2 x hn).trans hv) h) hd
theorem zMv {x:Str}{v:V}{u:Value}{pos:Pos}(hg:Gl X x) (hm:X.mg x=some u) (r:RelV v u) (hd:(x == ("__debug__":Str))=false:=by decide):PE X (.Name x pos) (tC v):=
 fun _ _ _ H _ I h=>zCb I hg hm ⟨v,H,I,r,h⟩ hd
theorem zMz {x:Str}{v:V}{u:Value}{pos:Pos}(hg:Gl X x) (hm:X.mg x=none) (hv:bootBuiltins x=some u) (r:RelV v u) (hn:x≠"__name__":=by decide) (hd:(x == ("__debug__":Str))=false:=by decide):PE X (.Name x pos) (tC v):=
 fun _ _ _ H _ I h=>zDv I hg hm hv ⟨v,H,I,r,h⟩ hn hd
variable {a b:Expr}{ta tb:TE}{pos:Pos}
variable {tA tB':TT}{rest:List Expr}
noncomputable def tAnd (t u:TT):TT:=fun σ H Q=>t σ H fun c H1=>if c=true then u σ H1 Q else Q false H1
noncomputable def tOr (t u:TT):TT:=fun σ H Q=>t σ H fun c H1=>if c=true then Q true H1 else u σ H1 Q
theorem zMc (ha:PT X a tA):PW X (.BoolOp .And [a] pos) tA:=by
 intro wh pins s σ H Q I h
 refine isTrue_and (thn (ha pins s σ H Q I h) fun c s1 e=>?_)
 cases c with
 | true=>exact isTrue_and_nil e
 | false=>exact e
theorem zPa (ha:PT X a tA):PW X (.BoolOp .Or [a] pos) tA:=by
 intro wh pins s σ H Q I h
 refine isTrue_or (thn (ha pins s σ H Q I h) fun c s1 e=>?_)
 cases c with
 | false=>exact isTrue_or_nil e
 | true=>exact e
theorem zPc (ha:PT X a tA) (hb:PW X (.BoolOp .And (b::rest) pos) tB'):PW X (.BoolOp .And (a::b::rest) pos) (tAnd tA tB'):=by
 intro wh pins s σ H Q I h
 refine isTrue_and (thn (ha pins s σ H _ I h) fun c s1 hq1=>?_)
 obtain⟨H1,I1,q1⟩:=hq1
 cases c with
 | true=>exact hb wh pins s1 σ H1 Q I1 q1
 | false=>exact⟨H1,I1,q1⟩
theorem zRt (ha:PT X a tA) (hb:PW X (.BoolOp .Or (b::rest) pos) tB'):PW X (.BoolOp .Or (a::b::rest) pos) (tOr tA tB'):=by
 intro wh pins s σ H Q I h
 refine isTrue_or (thn (ha pins s σ H _ I h) fun c s1 hq1=>?_)
 obtain⟨H1,I1,q1⟩:=hq1
 cases c with
 | true=>exact⟨H1,I1,q1⟩
 | false=>exact hb wh pins s1 σ H1 Q I1 q1
end
end L2
namespace L2
open PySem PySem.Spec PyProof.Rows
noncomputable def SqL (K:PySem.W.Frag) (H:Hp) (a:Addr) (xs:List V):Prop:=
 Rd H a (.lst xs) \/
  ∃(o:Obj) (its:Array Value) (n:Nat),K.lookup a=some o/\o.cls=.type "list"/\o.dict=none/\o.data=.seq its n/\its.size<=sizeLine/\Vals xs its.toList
noncomputable def SqT (K:PySem.W.Frag) (H:Hp) (a:Addr) (xs:List V):Prop:=
 Rd H a (.tup xs) \/
  ∃(o:Obj) (its:Array Value) (n:Nat),K.lookup a=some o/\o.cls=.type "tuple"/\o.data=.seq its n/\its.size<=sizeLine/\Vals xs its.toList
noncomputable def absV:Value->Option V
 | .none=>some .non
 | .bool b=>some (.bl b)
 | .int i _=>some (.int i)
 | .str x _=>some (.str x)
 | .bytes b _=>some (.byt b)
 | .float b _=>some (.flt b)
 | .ref a=>some (.ref a)
 | .type n=>some (.ty n)
 | _=>none
theorem RelV.abs {x:V}{u:Value}(r:RelV x u):absV u=some x:=by
 cases x with
 | non=>cases r;rfl
 | bl _=>cases r;rfl
 | int _=>obtain⟨t,rfl⟩:=r;rfl
 | str _=>obtain⟨t,rfl⟩:=r;rfl
 | byt _=>obtain⟨t,rfl⟩:=r;rfl
 | flt _=>obtain⟨t,rfl⟩:=r;rfl
 | ref _=>cases r;rfl
 | ty _=>cases r;rfl
theorem RelV.inj {x y:V}{u:Value}(r:RelV x u) (q:RelV y u):x=y:=xY (r.abs.symm.trans q.abs)
theorem Vals.inj:∀{xs ys:List V}{us:List Value},Vals xs us->Vals ys us->xs=ys
 | _,_,_,.nil,.nil=>rfl
 | _,_,_,.cons r t,.cons r' t'=>by rw[r.inj r',Vals.inj t t']
section
variable {X:Cx}{pins:List (Addr × Obj)}{σ:St}{H:Hp}{s:Shared}{a:Addr}{xs ys:List V}
theorem Inv.list (I:Inv X pins σ H s) (h:SqL X.K H a xs):∃its:List Value,Vals xs its/\PlainL s.heap a its.toArray/\xs.length<=sizeLine:=by
 rcases h with h|⟨o,its,n,hk,hc,hd,hs,hz,r⟩
 ·obtain⟨z,its,n,r,e⟩:=h.ok I.hok
  exact⟨its,r,⟨_,n,e,rfl,rfl,rfl⟩,z⟩
 ·refine⟨its.toList,r,⟨o,n,I.kIn a o hk,hc,hd,by simpa using hs⟩,?_⟩
  have e:=r.length
  simp only[vN]at e
  lia
theorem Inv.tuple (I:Inv X pins σ H s) (h:SqT X.K H a xs):∃its:List Value,Vals xs its/\IsTup s.heap a its.toArray/\xs.length<=sizeLine:=by
 rcases h with h|⟨o,its,n,hk,hc,hs,hz,r⟩
 ·obtain⟨z,its,r,p⟩:=h.ok I.hok
  exact⟨its,r,p,z⟩
 ·refine⟨its.toList,r,⟨o,I.kIn a o hk,hc,n,by simpa using hs⟩,?_⟩
  have e:=r.length
  simp only[vN]at e
  lia
theorem Inv.list_inj (I:Inv X pins σ H s) (h:SqL X.K H a xs) (h':SqL X.K H a ys):xs=ys:=by
 obtain⟨its,r,⟨o,n,e,_,_,d⟩,_⟩:=I.list h
 obtain⟨its',r',⟨o',n',e',_,_,d'⟩,_⟩:=I.list h'
 rw[e]at e';cases e'
 rw[d]at d'
 injection d' with d1 _
 have:its=its':=by simpa using congrArg Array.toList d1
 subst this
 exact r.inj r'
theorem Inv.tuple_inj (I:Inv X pins σ H s) (h:SqT X.K H a xs) (h':SqT X.K H a ys):xs=ys:=by
 obtain⟨its,r,⟨o,e,_,n,d⟩,_⟩:=I.tuple h
 obtain⟨its',r',⟨o',e',_,n',d'⟩,_⟩:=I.tuple h'
 rw[e]at e';cases e'
 rw[d]at d'
 injection d' with d1 _
 have:its=its':=by simpa using congrArg Array.toList d1
 subst this
 exact r.inj r'
end
noncomputable abbrev Cx.wish (X:Cx) (E:Value->Shared->Prop):Cx:={ X with xe:=E }
noncomputable abbrev Cx.nox (X:Cx):Cx:=X.wish fun _ _=>False
theorem Cx.Ok.wish {X:Cx}(ok:X.Ok) (E:Value->Shared->Prop):(X.wish E).Ok:=
 ⟨ok.mod,ok.kind,ok.glob,ok.blt,ok.above,ok.inj,ok.has,ok.cab,ok.hd,ok.frames,ok.stk,ok.exf,ok.bs,ok.bsz,ok.noex,ok.exfs,ok.funs,ok.frf,ok.gds⟩
theorem Cx.Ok.unwish {X:Cx}{E:Value->Shared->Prop}(ok:(X.wish E).Ok):X.Ok:=
 ⟨ok.mod,ok.kind,ok.glob,ok.blt,ok.above,ok.inj,ok.has,ok.cab,ok.hd,ok.frames,ok.stk,ok.exf,ok.bs,ok.bsz,ok.noex,ok.exfs,ok.funs,ok.frf,ok.gds⟩
section
variable {X:Cx}{pins:List (Addr × Obj)}{σ:St}{H:Hp}{s:Shared}{E:Value->Shared->Prop}
theorem Inv.wish (I:Inv X pins σ H s) (E:Value->Shared->Prop):Inv (X.wish E) pins σ H s:=⟨I.ok.wish E,I.os,I.bare,I.base,I.loc,I.cell,I.free,I.freeC,I.pin,I.hok,I.len⟩
theorem Inv.unwish (I:Inv (X.wish E) pins σ H s):Inv X pins σ H s:=⟨I.ok.unwish,I.os,I.bare,I.base,I.loc,I.cell,I.free,I.freeC,I.pin,I.hok,I.len⟩
theorem SP.unwish {D:Ends}{f:Flow}{s':Shared}(h:SP (X.wish E) pins D f s'):SP X pins D f s':=by
 cases f with
 | next=>obtain⟨σ',H',I,q⟩:=h;exact⟨σ',H',I.unwish,q⟩
 | brk=>obtain⟨σ',H',I,q⟩:=h;exact⟨σ',H',I.unwish,q⟩
 | cont=>obtain⟨σ',H',I,q⟩:=h;exact⟨σ',H',I.unwish,q⟩
 | ret u=>obtain⟨v,σ',H',I,r,q⟩:=h;exact⟨v,σ',H',I.unwish,r,q⟩
theorem PT.nox {e:Expr}{t:TT}(h:PT X.nox e t):PT X e t:=fun pins s σ H Q I hw=>
 xw (h pins s σ H Q (I.wish _) hw) (fun _ _ hz1=>by obtain⟨H',I',q⟩:=hz1;exact ⟨H',I'.unwish,q⟩) fun _ _ z=>False.elim z
theorem PSs.nox {st:List Stmt}{t:TS}(h:PSs X.nox st t):PSs X st t:=fun pins s σ H D I hw=>
 xw (h pins s σ H D (I.wish _) hw) (fun _ _ q=>q.unwish) fun _ _ z=>False.elim z
end
section
variable {X:Cx}{st:Stmt}{rest:List Stmt}{t u:TS}{e:Expr}{te:TE}{pos:Pos}
noncomputable def zP1:TS:=fun D σ H=>D.nx σ H
noncomputable def tSeq (t u:TS):TS:=fun D σ H=>t { D with nx:=u D } σ H
theorem zMg:PSs X [] zP1:=fun _ _ σ H _ I h=>vG ⟨σ,H,I,h⟩
theorem zJk (h1:PS X st t) (h2:PSs X rest u):PSs X (st::rest) (tSeq t u):=by
 intro pins s σ H D I h
 refine wpAny_execs_cons (thn (h1 pins s σ H { D with nx:=u D } I h) fun f s1 q=>?_)
 cases f with
 | next=>
  obtain⟨σ',H',I',q⟩:=q
  exact h2 pins s1 σ' H' D I' q
 | ret v=>exact q
 | brk=>exact q
 | cont=>exact q
theorem zMf (h1:PS X st t):PSs X [st] t:=by
 intro pins s σ H D I h
 refine wpAny_execs_cons (thn (h1 pins s σ H D I h) fun f s1 q=>?_)
 cases f with
 | next=>exact vG q
 | ret v=>exact q
 | brk=>exact q
 | cont=>exact q
theorem Inv.quiet {pins:List (Addr × Obj)}{σ:St}{H:Hp}{s:Shared}(I:Inv X pins σ H s):interactive X.env=false:=by simp[interactive,I.ok.kind]
noncomputable def zLy (te:TE):TS:=fun D σ H=>te σ H fun _ H1=>D.nx σ H1
theorem zMk (he:PE X e te) (hs:swapsWith e none pos.line X.env=pure false:=by rfl):PS X (.Expr e pos) (zLy te):=by
 intro pins s σ H D I h
 exact wpAny_Expr_any (thn (he pins s σ H _ I h) fun v s1 hz2=>by obtain⟨x,H1,I1,r1,q1⟩:=hz2;exact ⟨σ,H1,I1,q1⟩) I.quiet hs
noncomputable def tRet (te:TE):TS:=fun D σ H=>te σ H D.rt
theorem zPf (he:PE X e te):PS X (.Return (some e) pos) (tRet te):=by
 intro pins s σ H D I h
 exact wpAny_Return_some (thn (he pins s σ H _ I h) fun v s1 hz3=>by obtain⟨x,H1,I1,r1,q1⟩:=hz3;exact ⟨x,σ,H1,I1,r1,q1⟩)
noncomputable def tIfS (c:TT) (t u:TS):TS:=fun D σ H=>c σ H fun b H1=>if b=true then t D σ H1 else u D σ H1
theorem zRv {c:Expr}{a b:List Stmt}{tc:TT}(hc:PT X c tc) (ha:PSs X a t) (hb:PSs X b u):PS X (.If c a b pos) (tIfS tc t u):=by
 intro pins s σ H D I h
 refine wpAny_If (thn (hc pins s σ H _ I h) fun d s1 hq1=>?_)
 obtain⟨H1,I1,q1⟩:=hq1
 cases d with
 | true=>exact ha pins s1 σ H1 D I1 q1
 | false=>exact hb pins s1 σ H1 D I1 q1
end
noncomputable abbrev TG:=V->St->Hp->(St->Hp->Prop)->Prop
noncomputable abbrev TGs:=List V->St->Hp->(St->Hp->Prop)->Prop
noncomputable def PG (X:Cx) (target:Expr) (t:TG):Prop:=
 ∀(pins:List (Addr × Obj)) (s:Shared) (σ:St) (H:Hp) (v:V) (u:Value) (Q:St->Hp->Prop),Inv X pins σ H s->RelV v u->t v σ H Q->
  wpAny (model X.prog X.w) X.A (assign target X.env u) (fun _ s'=>∃σ' H',Inv X pins σ' H' s'/\Q σ' H') X.xe s
noncomputable def PGs (X:Cx) (ts:List Expr) (t:TGs):Prop:=
 ∀(pins:List (Addr × Obj)) (s:Shared) (σ:St) (H:Hp) (vs:List V) (us:List Value) (Q:St->Hp->Prop),Inv X pins σ H s->Vals vs us->t vs σ H Q->
  wpAny (model X.prog X.w) X.A (assignInOrder ((assignEach ts X.env).map (·.2)) us) (fun _ s'=>∃σ' H',Inv X pins σ' H' s'/\Q σ' H') X.xe s
noncomputable abbrev TSet:=V->V->V->Hp->(Hp->Prop)->Prop
noncomputable def PSet (X:Cx) (t:TSet):Prop:=
 ∀(pins:List (Addr × Obj)) (s:Shared) (σ:St) (H:Hp) (o i v:V) (ov iv u:Value) (Q:Hp->Prop),Inv X pins σ H s->RelV o ov->RelV i iv->RelV v u->t o i v H Q->
  wpAny (model X.prog X.w) X.A (setItem ov iv u) (fun _ s'=>∃H',Inv X pins σ H' s'/\Q H') X.xe s
section
variable {X:Cx}{pos:Pos}
noncomputable def gName (i:Nat):TG:=fun v σ H Q=>Q (σ.set i (some v)) H
theorem zMq {i:Nat}{x:Str}(hN:X.N.Nodup) (hi:X.N[i]?=some x) (hx:Loc X.env.scope x) (hf:X.fn x=true\/X.env.scope.names.lookup x=some .local:=by first|exact .inl rfl|exact .inr rfl|assumption):PG X (.Name x pos) (gName i):=by
 intro pins s σ H v u Q I r h
 exact wpAny_assign_Name (zBg I hN hi hx r (fun s' I'=>⟨_,H,I',h⟩) hf)
noncomputable def gNil:TGs:=fun vs σ H Q=>vs=[]/\Q σ H
noncomputable def zNw (t:TG) (u:TGs):TGs:=fun vs σ H Q=>∃v r,vs=v::r/\t v σ H fun σ' H'=>u r σ' H' Q
theorem zMo:PGs X [] gNil:=by
 intro pins s σ H vs us Q I r h
 obtain⟨e,h⟩:=h
 subst e
 cases r
 exact assignInOrder_nil ⟨σ,H,I,h⟩
theorem zJt {e:Expr}{es:List Expr}{t:TG}{u:TGs}(h1:PG X e t) (h2:PGs X es u)
  (hs:(assignEach (e::es) X.env).map (·.2)=assign e X.env::(assignEach es X.env).map (·.2):=by rfl):PGs X (e::es) (zNw t u):=by
 intro pins s σ H vs us Q I r h
 obtain⟨v,vr,e1,h⟩:=h
 subst e1
 cases r with
 | cons r rr=>
  rw[hs]
  refine assignInOrder_cons (thn (h1 pins s σ H _ _ _ I r h) fun _ s1 hq1=>?_)
  obtain⟨σ1,H1,I1,q1⟩:=hq1
  exact h2 pins s1 σ1 H1 _ _ Q I1 rr q1
noncomputable def gTup (K:PySem.W.Frag) (n:Nat) (t:TGs):TG:=fun v σ H Q=>∃a xs,v=.ref a/\SqT K H a xs/\xs.length=n/\t xs σ H Q
theorem zPl {es:List Expr}{k:Nat}{t:TGs}{n:Nat}(hc:X.calm=true) (h:PGs X es t)
  (hn:(assignEach es X.env).length=n:=by rfl) (hst:(assignEach es X.env).findIdx? (·.1)=none:=by rfl):PG X (.Tuple es k pos) (gTup X.K n t):=by
 intro pins s σ H v u Q I r hw
 obtain⟨a,xs,e1,hq,hl,hw⟩:=hw
 subst e1
 cases r
 obtain⟨its,rv,ht,hz⟩:=I.tuple hq
 refine assign_Tuple_tuple (I.ok.hd hc) ht (by simp[hn,<- hl,rv.length]) hst fun h' hx=>?_
 have I1:Inv X pins σ H { s with heap:=h' }:=I.kept (t':=s.toks) fun b o e=>hx b o (xo (xi e)) e
 exact h pins _ σ H xs _ Q I1 (by simpa using rv) hw
noncomputable def gSub (to ti:TE) (t:TSet):TG:=fun v σ H Q=>to σ H fun o H1=>ti σ H1 fun i H2=>t o i v H2 fun H3=>Q σ H3
theorem zPm {o i:Expr}{to ti:TE}{t:TSet}(ho:PE X o to) (hi:PE X i ti) (hs:PSet X t)
  (ha:∀v,assign (.Subscript o i pos) X.env v=(do
   let ov <- holding [v] (eval o X.env)
   let iv <- holding [v,ov] (eval i X.env)
   standAt pos
   holding [v,ov,iv] (setItem ov iv v)
   release [v,ov,iv] []):=by intro _;rfl):PG X (.Subscript o i pos) (gSub to ti t):=by
 intro pins s σ H v u Q I r h
 rw[ha]
 refine xa (xx (thn (ho pins s σ H _ I h) fun ov s1 hq1=>?_))
 obtain⟨x,H1,I1,r1,q1⟩:=hq1
 refine xa (xx (thn (hi pins s1 σ H1 _ I1 q1) fun iv s2 hq1=>?_))
 obtain⟨y,H2,I2,r2,q2⟩:=hq1
 refine xa (vf (xa (xx (thn (hs pins s2 σ H2 x y v ov iv u _ I2 r1 r2 r q2) fun _ s3 hq1=>?_))))
 obtain⟨H3,I3,q3⟩:=hq1
 exact wpAny_release ⟨σ,H3,I3,q3⟩
noncomputable def tAsg (te:TE) (g:TG):TS:=fun D σ H=>te σ H fun x H1=>g x σ H1 D.nx
theorem zPj {tg e:Expr}{te:TE}{g:TG}(he:PE X e te) (hg:PG X tg g) (hs:swapsWithSole [tg] e pos.line X.env=pure false:=by rfl) (hw:swappedStores [tg] e X.env=pure none:=by rfl)
  (h1:(assignEach [tg] X.env).map (·.2)=[assign tg X.env]:=by rfl):PS X (.Assign [tg] e pos) (tAsg te g):=by
 intro pins s σ H D I h
 refine wpAny_Assign_stores (thn (he pins s σ H _ I h) fun v s1 hq1=>?_) hs hw
 obtain⟨x,H1,I1,r1,q1⟩:=hq1
 rw[h1]
 exact thn (hg pins s1 σ H1 x v _ I1 r1 q1) fun _ s2 q=>q
theorem zPe {i:Nat}{x:Str}{e:Expr}{te:TE}{pos':Pos}(hN:X.N.Nodup) (hi:X.N[i]?=some x) (hx:Loc X.env.scope x) (he:PE X e te) (hs:swapsWith e (some (.Name x pos')) pos.line X.env=pure false:=by rfl) (hf:X.fn x=true\/X.env.scope.names.lookup x=some .local:=by first|exact .inl rfl|exact .inr rfl|assumption):
  PS X (.Assign [.Name x pos'] e pos) (tAsg te (gName i)):=by
 intro pins s σ H D I h
 refine wpAny_Assign_Name (thn (he pins s σ H _ I h) fun v s1 hq1=>?_) hs
 obtain⟨y,H1,I1,r1,q1⟩:=hq1
 exact zBg I1 hN hi hx r1 (fun s2 I2=>⟨_,H1,I2,q1⟩) hf
noncomputable def tPar (i j:Nat) (ta:TA):TS:=fun D σ H=>ta σ H fun vs H1=>∃v w,vs=[v,w]/\D.nx ((σ.set i (some v)).set j (some w)) H1
theorem zPg {i j:Nat}{x y:Str}{a b:Expr}{ta:TA}{px py pt:Pos}{kt k2 pt2} (hc:X.calm=true) (hN:X.N.Nodup) (hi:X.N[i]?=some x) (hj:X.N[j]?=some y) (hij:i≠j)
  (hx:X.env.scope.names.lookup x=some .local) (hy:X.env.scope.names.lookup y=some .local) (ha:PA X [a,b] ta)
  (hw:swappedStores [.Tuple [.Name x px,.Name y py] kt pt] (.Tuple [a,b] k2 pt2) X.env=pure (some [x,y]))
  (hs:swapsWithSole [.Tuple [.Name x px,.Name y py] kt pt] (.Tuple [a,b] k2 pt2) pos.line X.env=pure false:=by rfl):
  PS X (.Assign [.Tuple [.Name x px,.Name y py] kt pt] (.Tuple [a,b] k2 pt2) pos) (tPar i j ta):=by
 intro pins s σ H D I h
 rw[exec_Assign_arm]
 refine xa (vf ?_)
 rw[hs]
 refine xa (xf ?_)
 rw[xc (by decide)]
 refine xa (Tuple_ (thn (ha _ pins s σ H _ I h) fun us s1 hq1=>?_))
 obtain⟨vs,H1,I1,r1,q1⟩:=hq1
 obtain⟨v,w,e1,q1⟩:=q1
 subst e1
 obtain⟨u1,u2,rfl,rv,rw'⟩:∃u1 u2,us=[u1,u2]/\RelV v u1/\RelV w u2:=by
  cases r1 with
  | cons p q=>
   cases q with
   | cons p' q'=>
    cases q'
    exact⟨_,_,rfl,p,p'⟩
 refine vg ?_ (by show 2<=sizeLine;decide)
 have I2:Inv X pins σ H1 { s1 with heap:=s1.heap.push { cls:=.type "tuple",data:=.seq [u1,u2].toArray } }:=I1.kept (t':=s1.toks) fun b o e=>xl _ e
 rw[hw]
 refine xa (xf ?_)
 show wpAny (model X.prog X.w) X.A (do rule "assign.swapped-stores";let items <- unpackItems (.ref s1.heap.objs.size) 2 none;assignInOrder [fun v=>bindName X.env y v,fun v=>bindName X.env x v] items.reverse;pure Flow.next) _ _ _
 refine xa (wpAny_rule (xa (unpackItems_tuple (items:=#[u1,u2]) (I.ok.hd hc) (IsTup.new s1.heap _) fun h' hx'=>?_)))
 have I3:=I2.kept (h':=h') (t':=s1.toks) fun b o e=>hx' b o (xo (xi e)) e
 show wpAny _ _ (assignInOrder [fun v=>bindName X.env y v,fun v=>bindName X.env x v] [u2,u1] >>= fun _=>pure Flow.next) _ _ _
 refine xa (assignInOrder_cons (wpAny_bindName (zBg I3 hN hj (.inl hy) rw' (fun s2 I4=>?_) (.inr hy))))
 refine assignInOrder_cons (wpAny_bindName (zBg I4 hN hi (.inl hx) rv (fun s3 I5=>assignInOrder_nil (xf ?_)) (.inr hx)))
 rw[List.set_comm _ _ (xk hij)]at I5
 exact⟨_,H1,I5,q1⟩
end
section
variable {X:Cx}{pos:Pos}
noncomputable def zL2 (c:TT) (tb:TS):TS:=fun D σ H=>∃W:Nat->St->Hp->Prop,(∃m,W m σ H)/\∀m σ H,W m σ H->
 c σ H fun b H1=>if b=true then ∃N:St->Hp->Prop,(∀σ' H',N σ' H'->∃m',m'<m/\W m' σ' H')/\tb { D with nx:=N,ct:=N,bk:=D.nx } σ H1 else D.nx σ H1
theorem zJl {c:Expr}{body:List Stmt}{tc:TT}{tb:TS}(hp:PassesOwn (model X.prog X.w) X.A X.env X.xe) (hc:PT X c tc) (hb:PSs X body tb):PS X (.While c body [] pos) (zL2 tc tb):=by
 intro pins s σ H D I h
 obtain⟨W,⟨m0,w0⟩,turn⟩:=h
 refine wpAny_While (codeAny_whileLoop (fun n s'=>∃σ' H',Inv X pins σ' H' s'/\W n σ' H') ?_ m0 ⟨σ,H,I,w0⟩)
 rintro n s1 ⟨σ1,H1,I1,w1⟩
 refine vh hp (thn (hc pins s1 σ1 H1 _ I1 (turn n σ1 H1 w1)) fun b s2 hq1=>?_)
 obtain⟨H2,I2,q2⟩:=hq1
 cases b with
 | true=>
  obtain⟨N,hN,q2⟩:=q2
  rw[xb rfl]
  refine vh hp (thn (hb pins s2 σ1 H2 _ I2 q2) fun f s3 q3=>?_)
  cases f with
  | next=>
   obtain⟨σ3,H3,I3,n3⟩:=q3
   obtain⟨m',hm,w3⟩:=hN σ3 H3 n3
   exact⟨m',hm,σ3,H3,I3,w3⟩
  | cont=>
   obtain⟨σ3,H3,I3,n3⟩:=q3
   obtain⟨m',hm,w3⟩:=hN σ3 H3 n3
   exact⟨m',hm,σ3,H3,I3,w3⟩
  | brk=>exact q3
  | ret v=>exact q3
 | false=>
  rw[xc xG]
  exact vG ⟨σ1,H2,I2,q2⟩
end
structure It where
 go:Nat->Hp->Prop
 yld:Nat->Hp->V->Hp->Prop
 stop:Nat->Hp->Prop
noncomputable def FpOk (X:Cx) (pins:List (Addr × Obj)) (H:Hp) (b:Addr):Prop:=
 H b=none/\b≠X.env.locals/\b ∉ X.fs/\(b∈X.ex\/X.s₀.heap.objs.size<=b)/\(∀x c,X.env.cells.lookup x=some c->c≠b)/\∀p∈X.pn++pins,p.1≠b
theorem Inv.fpOk {X:Cx}{pins:List (Addr × Obj)}{σ:St}{H H':Hp}{s:Shared}{b:Addr}(I:Inv X pins σ H s) (hb:s.heap.objs.size<=b) (hn:H' b=none):FpOk X pins H' b:=by
 refine⟨hn,Nat.ne_of_gt (xn I.lt hb),I.nofs hb,.inr (xq I.sz hb),fun x c e z=>?_,fun p hp z=>?_⟩
 ·obtain⟨v,q⟩:=I.cell x c e
  exact absurd (xn q.lt (by rw[z];exact hb)) (xO _)
 ·exact absurd (xn (xi (I.pin p hp).1) (by rw[z];exact hb)) (xO _)
structure Turn (P:Program) (w:World) (K:PySem.W.Frag) (tg:Expr) (J:It) (fp:List Addr) (it:Addr) (tn:Nat->Heap->Prop):Prop where
 mem:it∈fp
 obj:∀i h,tn i h->∀b∈fp,∃o,h.get? b=some o/\∀v,o.data≠.cell v
 keep:∀i h h',tn i h->(∀b∈fp,∀o,h.get? b=some o->h'.get? b=some o)->tn i h'
 item:∀(X:Cx),X.prog=P->X.w=w->X.K=K->X.calm=true->∀(i:Nat) (pins:List (Addr × Obj)) (s:Shared) (σ:St) (H:Hp) (E:Value->Shared->Prop),Inv X pins σ H s->(∀b∈fp,FpOk X pins H b)->tn i s.heap->J.go i H->
  wpAny (model P w) X.A (pyNext (.ref it)) (fun r s1=>∃u,r=some u /\
   wpAny (model P w) X.A (letOwnedTupleGo tg (.ref it) u) (fun _ s2=>∃x H',Inv X pins σ H' s2/\RelV x u/\J.yld i H x H'/\tn (i+1) s2.heap/\∀b∈fp,H' b=none) E s1) E s
 done:∀(X:Cx),X.prog=P->X.w=w->X.K=K->X.calm=true->∀(i:Nat) (pins:List (Addr × Obj)) (s:Shared) (σ:St) (H:Hp) (E:Value->Shared->Prop),Inv X pins σ H s->(∀b∈fp,FpOk X pins H b)->tn i s.heap->J.stop i H->
  wpAny (model P w) X.A (pyNext (.ref it)) (fun r s1=>r=none/\Inv X pins σ H s1) E s
 self:∀(A:Around) (i:Nat) (s:Shared) (Q:Value->Shared->Prop) (E:Value->Shared->Prop),tn i s.heap->Q (.ref it) s->wpAny (model P w) A (pyIter (.ref it)) Q E s
noncomputable abbrev TI:=St->Hp->(It->Hp->Prop)->Prop
noncomputable def PIE (X:Cx) (pins:List (Addr × Obj)) (σ:St) (tg:Expr) (R:It->Hp->Prop) (itv:Value) (s2:Shared):Prop:=
 ∃(it:Addr) (fp:List Addr) (tn:Nat->Heap->Prop) (J:It) (H':Hp),itv=.ref it/\Inv X pins σ H' s2/\Turn X.prog X.w X.K tg J fp it tn/\tn 0 s2.heap/\(∀b∈fp,FpOk X pins H' b)/\R J H'
noncomputable def PI (X:Cx) (tg iter:Expr) (wi:TI):Prop:=
 ∀(pins:List (Addr × Obj)) (s:Shared) (σ:St) (H:Hp) (R:It->Hp->Prop),Inv X pins σ H s->wi σ H R->
  wpAny (model X.prog X.w) X.A (eval iter X.env) (fun v s1=>wpAny (model X.prog X.w) X.A (pyIter v) (PIE X pins σ tg R) X.xe s1) X.xe s
theorem zKj {M:Model}{A:Around}{E:Value->Shared->Prop}{s:Shared}{tg:Expr}{it:Addr}{u:Value}{o:Obj}{n:String}{vs:Array Value}{Q:Unit->Shared->Prop}(ho:s.heap.get? it=some o) (hc:o.cls=.type n) (hd:o.data=.fields vs)
    (hn:["enumerate","zip","dict_itemiterator","dict_reverseitemiterator","odict_iterator","itertools.zip_longest","itertools.pairwise"].contains n=false) (hQ:Q () s):wpAny M A (letOwnedTupleGo tg (.ref it) u) Q E s:=by
  unfold letOwnedTupleGo
  cases tg <;> first
    | exact xf hQ
    | (cases u <;> first
        | exact xf hQ
        | (refine xa (wpAny_load ho ?_)
           rw[hc,hd]
           show wpAny M A (if(["enumerate","zip","dict_itemiterator","dict_reverseitemiterator","odict_iterator","itertools.zip_longest","itertools.pairwise"].contains n && vs[0]? == some (rawInt _))=true then _ else _) Q E s
           rw[xc (by intro h;rw[hn,Bool.false_and]at h;cases h)]
           exact xf hQ))
noncomputable def Itl (K:PySem.W.Frag) (a:Addr):It:=
 ⟨fun i H=>∃xs x,SqL K H a xs/\xs[i]?=some x,fun i H x H'=>H'=H/\∀xs,SqL K H a xs->xs[i]?=some x,fun i H=>∃xs,SqL K H a xs/\xs.length<=i⟩
noncomputable def Itt (K:PySem.W.Frag) (a:Addr):It:=
 ⟨fun i H=>∃xs x,SqT K H a xs/\xs[i]?=some x,fun i H x H'=>H'=H/\∀xs,SqT K H a xs->xs[i]?=some x,fun i H=>∃xs,SqT K H a xs/\xs.length<=i⟩
noncomputable def Itr (lo:Int) (n:Nat):It:=⟨fun i _=>i<n,fun i H x H'=>H'=H/\x=.int (lo+i),fun i _=>n<=i⟩
theorem zGt {P:Program}{w:World}{K:PySem.W.Frag}{tg:Expr}(a it:Addr):Turn P w K tg (Itl K a) [it] it (fun i h=>h.IsListIter it a i) where
 mem:=by simp
 obj:=fun i h st b hb=>by
  have e:b=it:=by simpa using hb
  subst e
  obtain⟨o,e,c,d⟩:=st
  exact⟨o,e,fun v z=>by rw[d]at z;cases z⟩
 keep:=fun i h h' st k=>st.at fun o e=>k it (by simp) o e
 item:=by
  intro X hP hw hK hc i pins s σ H E I hf st hg
  subst hP hw hK
  obtain⟨xs,x,hq,hx⟩:=hg
  obtain⟨its,rv,p,hz⟩:=I.list hq
  obtain⟨u,hu,ru⟩:=rv.get hx
  obtain⟨f0,f1,f2,f3,f4,f5⟩:=hf it (by simp)
  refine wpAny_pyNext_list_item st p.isList (x:=u) (by simpa using hu) fun h' st' sb=>?_
  have I1:Inv X pins σ H { s with heap:=h' }:=I.turned (t':=s.toks) (fun b o hb e=>(sb.2 b hb).trans e) f0 f1 f3 f4 f5
  obtain⟨o,e,c,d⟩:=id st'
  exact⟨u,rfl,zKj (s:={ s with heap:=h' }) e c d (by decide) ⟨x,H,I1,ru,⟨rfl,fun ys hy=>by rw[I.list_inj hy hq];exact hx⟩,st',fun b hb=>(hf b hb).1⟩⟩
 done:=by
  intro X hP hw hK hc i pins s σ H E I hf st hg
  subst hP hw hK
  obtain⟨xs,hq,hx⟩:=hg
  obtain⟨its,rv,p,hz⟩:=I.list hq
  obtain⟨f0,f1,f2,f3,f4,f5⟩:=hf it (by simp)
  have hl:=rv.length
  exact wpAny_pyNext_list_end (I.ok.hd hc) st p.isList (by simp;lia) fun h' eb=>⟨rfl,I.turned (t':=s.toks) (fun b o hb e=>eb b o hb e) f0 f1 f3 f4 f5⟩
 self:=fun _ _ _ _ _ st h=>wpAny_pyIter_listiter st h
theorem zFw {P:Program}{w:World}{K:PySem.W.Frag}{tg:Expr}(a it:Addr):Turn P w K tg (Itt K a) [it] it (fun i h=>h.IsTupleIter it a i) where
 mem:=by simp
 obj:=fun i h st b hb=>by
  have e:b=it:=by simpa using hb
  subst e
  obtain⟨o,e,c,d⟩:=st
  exact⟨o,e,fun v z=>by rw[d]at z;cases z⟩
 keep:=fun i h h' st k=>st.at fun o e=>k it (by simp) o e
 item:=by
  intro X hP hw hK hc i pins s σ H E I hf st hg
  subst hP hw hK
  obtain⟨xs,x,hq,hx⟩:=hg
  obtain⟨its,rv,p,hz⟩:=I.tuple hq
  obtain⟨u,hu,ru⟩:=rv.get hx
  obtain⟨f0,f1,f2,f3,f4,f5⟩:=hf it (by simp)
  refine wpAny_pyNext_tuple_item st (show s.heap.IsTuple a its.toArray from p) (x:=u) (by simpa using hu) fun h' st' sb=>?_
  have I1:Inv X pins σ H { s with heap:=h' }:=I.turned (t':=s.toks) (fun b o hb e=>(sb.2 b hb).trans e) f0 f1 f3 f4 f5
  obtain⟨o,e,c,d⟩:=id st'
  exact⟨u,rfl,zKj (s:={ s with heap:=h' }) e c d (by decide) ⟨x,H,I1,ru,⟨rfl,fun ys hy=>by rw[I.tuple_inj hy hq];exact hx⟩,st',fun b hb=>(hf b hb).1⟩⟩
 done:=by
  intro X hP hw hK hc i pins s σ H E I hf st hg
  subst hP hw hK
  obtain⟨xs,hq,hx⟩:=hg
  obtain⟨its,rv,p,hz⟩:=I.tuple hq
  obtain⟨f0,f1,f2,f3,f4,f5⟩:=hf it (by simp)
  have hl:=rv.length
  exact wpAny_pyNext_tuple_end (I.ok.hd hc) st (show s.heap.IsTuple a its.toArray from p) (by simp;lia) fun h' eb=>⟨rfl,I.turned (t':=s.toks) (fun b o hb e=>eb b o hb e) f0 f1 f3 f4 f5⟩
 self:=fun _ _ _ _ _ st h=>wpAny_pyIter_tupleiter st h
theorem zFx {P:Program}{w:World}{K:PySem.W.Frag}{tg:Expr}(it:Addr) (lo:Int) (n:Nat):Turn P w K tg (Itr lo n) [it] it (fun i h=>IsRangeIter h it (lo+(i:Nat)*1) ((n:Int)-(i:Nat)) 1) where
 mem:=by simp
 obj:=fun i h st b hb=>by
  have e:b=it:=by simpa using hb
  subst e
  exact⟨_,st,fun v z=>by
   have z':Data.fields _=Data.cell v:=z
   cases z'⟩
 keep:=fun i h h' st k=>k it (by simp) _ st
 item:=by
  intro X hP hw hK hc i pins s σ H E I hf st hg
  subst hP hw hK
  obtain⟨f0,f1,f2,f3,f4,f5⟩:=hf it (by simp)
  have W:=Walks.range (prog:=X.prog) (w:=X.w) (I.ok.hd hc) it lo 1 n
  refine W.item i s _ _ hg st fun v h' tk hv st' kk=>?_
  obtain⟨t,rfl⟩:=hv
  have I1:Inv X pins σ H { s with heap:=h',toks:=tk }:=I.turned (fun b o hb e=>kk b o (by simpa using hb) e) f0 f1 f3 f4 f5
  refine⟨_,rfl,zKj (s:={ s with heap:=h',toks:=tk }) (n:="range_iterator") st' rfl rfl (by decide) ⟨.int (lo+i),H,I1,⟨t,?_⟩,⟨rfl,rfl⟩,st',fun b hb=>(hf b hb).1⟩⟩
  rw[Int.mul_one]
 done:=by
  intro X hP hw hK hc i pins s σ H E I hf st hg
  subst hP hw hK
  obtain⟨f0,f1,f2,f3,f4,f5⟩:=hf it (by simp)
  exact wpAny_pyNext_range_end (I.ok.hd hc) st (by have:n<=i:=hg;lia) fun h' eb=>⟨rfl,I.turned (t':=s.toks) (fun b o hb e=>eb b o hb e) f0 f1 f3 f4 f5⟩
 self:=fun _ _ _ _ _ st h=>wpAny_pyIter_rangeiter st h
end L2
namespace L2
open PySem PySem.Spec PyProof.Rows
section
variable {X:Cx}{tg:Expr}
theorem zJf {pins:List (Addr × Obj)}{σ:St}{H:Hp}{s:Shared}{R:It->Hp->Prop}{E:Value->Shared->Prop}{lo hi:Int}{t u v:Tok}{tk:Nat}(I:Inv X pins σ H s) (h1:-(2 ^ 62)<=lo) (h2:lo<2 ^ 62) (h3:-(2 ^ 62)<=hi) (h4:hi<2 ^ 62)
  (q:R (Itr lo (hi-lo).toNat) H):wpAny (model X.prog X.w) X.A (pyIter (.ref s.heap.objs.size)) (PIE X pins σ tg R) E { s with heap:=s.heap.push { cls:=.type "range",data:=.fields #[.int lo t,.int hi u,.int 1 v] },toks:=tk }:=by
 refine wpAny_pyIter_range (IsRange.new ..) (small_one h1 h2 h3 h4) ?_
 have I1:Inv X pins σ H { s with heap:=s.heap.push { cls:=.type "range",data:=.fields #[.int lo t,.int hi u,.int 1 v] },toks:=tk }:=I.kept fun b o e=>xl _ e
 refine⟨(s.heap.push { cls:=.type "range",data:=.fields #[.int lo t,.int hi u,.int 1 v] }).objs.size,[(s.heap.push { cls:=.type "range",data:=.fields #[.int lo t,.int hi u,.int 1 v] }).objs.size],_,_,H,rfl,
  I1.kept (t':=tk) fun b o e=>xl _ e,zFx _ lo (hi-lo).toNat,?_,fun b hb=>?_,q⟩
 ·have e1:lo+((0:Nat):Int)*1=lo:=by simp
  have e2:(((hi-lo).toNat:Nat):Int)-((0:Nat):Int)=Builtin.Range.rangeSize lo hi 1:=by rw[rangeSize_one];split <;> lia
  show IsRangeIter _ _ (lo+((0:Nat):Int)*1) ((((hi-lo).toNat:Nat):Int)-((0:Nat):Int)) 1
  rw[e1,e2]
  exact xv _ rfl
 ·have e:b=(s.heap.push { cls:=.type "range",data:=.fields #[.int lo t,.int hi u,.int 1 v] }).objs.size:=by simpa using hb
  subst e
  exact I1.fpOk (xh _) (I1.hok.fresh (xh _))
noncomputable def zNt (ta:TA):TI:=fun σ H R=>ta σ H fun vs H1=>∃j:Int,vs=[.int j]/\-(2 ^ 62)<=j/\j<2 ^ 62/\R (Itr 0 j.toNat) H1
theorem zHe {a:Expr}{ta:TA}{p pos:Pos}(hg:Gl X "range") (hm:X.mg "range"=none) (ha:PA X [a] ta) (hs:starEach [a] X.env=[(false,eval a X.env)]:=by rfl):PI X tg (.Call (.Name "range" p) [a] [] pos) (zNt ta):=by
 intro pins s σ H R I h
 refine Call_ (zDv I hg hm boot_range (vS (thn (ha pos pins s σ H _ I h) fun us s1 hq1=>?_) hs rfl))
 obtain⟨vs,H1,I1,r1,q1⟩:=hq1
 obtain⟨j,e,q1,q2,q⟩:=q1
 subst e
 cases r1 with
 | cons r rr=>
  cases rr
  obtain⟨t,rfl⟩:=r
  exact call_range_1 (zJf I1 (by nofun) (by nofun) q1 q2 (by simpa using q))
noncomputable def tFor (wi:TI) (g:TG) (tb:TS):TS:=fun D σ H=>wi σ H fun J H1=>∃W:Nat->Nat->St->Hp->Prop,(∃m,W 0 m σ H1)/\∀i m σ H,W i m σ H->
 (J.stop i H/\D.nx σ H)\/(J.go i H/\∃N:St->Hp->Prop,(∀σ' H',N σ' H'->∃m',m'<m/\W (i+1) m' σ' H')/\∀x H',J.yld i H x H'->g x σ H' fun σ2 H2=>tb { D with nx:=N,ct:=N,bk:=D.nx } σ2 H2)
noncomputable def zDr (fp:List Addr) (h:Heap):List (Addr × Obj):=fp.filterMap fun b=>(h.get? b).map fun o=>(b,o)
theorem zB7 {fp:List Addr}{h:Heap}{b:Addr}{o:Obj}(hb:b∈fp) (e:h.get? b=some o):(b,o)∈zDr fp h:=List.mem_filterMap.mpr ⟨b,hb,by rw[e];rfl⟩
theorem zHk {fp:List Addr}{h:Heap}{p:Addr × Obj}(hp:p∈zDr fp h):p.1∈fp/\h.get? p.1=some p.2:=by
 obtain⟨b,hb,e⟩:=List.mem_filterMap.mp hp
 cases q:h.get? b with
 | none=>rw[q]at e;cases e
 | some o=>
  rw[q]at e
  have e':(b,o)=p:=xY e
  subst e'
  exact⟨hb,q⟩
theorem Inv.pinned {pins:List (Addr × Obj)}{σ:St}{H:Hp}{s:Shared}{fp:List Addr}(I:Inv X pins σ H s) (hf:∀b∈fp,FpOk X pins H b) (ho:∀b∈fp,∃o,s.heap.get? b=some o/\∀v,o.data≠.cell v):Inv X (pins++zDr fp s.heap) σ H s:=
 I.pins_of fun p hp=>(List.mem_append.mp hp).elim (fun z=>I.pin p (xJ _ z)) fun z=>by
  obtain⟨hb,e⟩:=zHk z
  obtain⟨f0,f1,f2,_⟩:=hf p.1 hb
  obtain⟨o,e',d⟩:=ho p.1 hb
  rw[e]at e';cases e'
  exact⟨e,f0,f1,f2,d⟩
theorem Inv.unpinned {pins pl:List (Addr × Obj)}{σ:St}{H:Hp}{s:Shared}(I:Inv X (pins++pl) σ H s):Inv X pins σ H s:=I.pins_of fun p hp=>I.pin p (xJ _ (vM _ hp))
theorem zPi {iter:Expr}{body:List Stmt}{wi:TI}{g:TG}{tb:TS}{pos:Pos}(hp:PassesOwn (model X.prog X.w) X.A X.env X.xe) (hc:X.calm=true) (hi:PI X tg iter wi) (hg:PG X tg g) (hb:PSs X body tb)
  (hs:∀x,foldedSetIterable iter X.env x=pure x:=by intro _;rfl):PS X (.For tg iter body [] pos) (tFor wi g tb):=by
 intro pins s σ H D I h
 refine wpAny_For (thn (hi pins s σ H _ I h) fun v s1 h1=>thn h1 fun itv s2 h2=>?_) hs
 obtain⟨it,fp,tn,J,H2,e,I2,T,st2,f2,W,⟨m0,w0⟩,turn⟩:=h2
 subst e
 -- what stays true of the iterator's objects through the loop
 have stat:∀{H':Hp},(∀b∈fp,H' b=none)->∀b∈fp,FpOk X pins H' b:=fun hn b hb=>⟨hn b hb,(f2 b hb).2⟩
 refine codeAny_forLoop_any (fun n s'=>∃i σ' H',Inv X pins σ' H' s'/\tn i s'.heap/\(∀b∈fp,H' b=none)/\W i n σ' H') ?_ m0 ⟨0,σ,H2,I2,st2,fun b hb=>(f2 b hb).1,w0⟩
 rintro n s3 ⟨i,σ3,H3,I3,st3,fr3,w3⟩
 rcases turn i n σ3 H3 w3 with⟨stop,qn⟩|⟨go,N,hN,step⟩
 ·refine vh hp (thn (T.done X rfl rfl rfl hc i pins s3 σ3 H3 X.xe I3 (stat fr3) st3 stop) fun r s4 hq1=>?_)
  obtain⟨hr,I4⟩:=hq1
  subst hr
  exact vG ⟨σ3,H3,I4,qn⟩
 ·refine vh hp (thn (T.item X rfl rfl rfl hc i pins s3 σ3 H3 X.xe I3 (stat fr3) st3 go) fun r s4 hq1=>?_)
  obtain⟨u,hr,h4⟩:=hq1
  subst hr
  refine vh hp (thn h4 fun _ s5 hq1=>?_)
  obtain⟨x,H5,I5,r5,y5,st5,fr5⟩:=hq1
  have I5':=I5.pinned (stat fr5) (T.obj _ _ st5)
  refine vh hp (thn (hg _ s5 σ3 H5 x u _ I5' r5 (step x H5 y5)) fun _ s6 hq1=>?_)
  obtain⟨σ6,H6,I6,q6⟩:=hq1
  refine vh hp (thn (hb _ s6 σ6 H6 _ I6 q6) fun f s7 q7=>?_)
  have again:∀{σ7:St}{H7:Hp},Inv X (pins++zDr fp s5.heap) σ7 H7 s7->N σ7 H7->∃m,m<n/\∃i σ' H',Inv X pins σ' H' s7/\tn i s7.heap/\(∀b∈fp,H' b=none)/\W i m σ' H':=fun {σ7 H7} I7 n7=>by
   obtain⟨m',hm,w7⟩:=hN σ7 H7 n7
   refine⟨m',hm,i+1,σ7,H7,I7.unpinned,T.keep _ _ _ st5 fun b hb o e=>(I7.pin (b,o) (xJ _ (xJ _ (zB7 hb e)))).1,fun b hb=>?_,w7⟩
   obtain⟨o,e,d⟩:=T.obj _ _ st5 b hb
   exact(I7.pin (b,o) (xJ _ (xJ _ (zB7 hb e)))).2.1
  cases f with
  | next=>obtain⟨σ7,H7,I7,n7⟩:=q7;exact again I7 n7
  | cont=>obtain⟨σ7,H7,I7,n7⟩:=q7;exact again I7 n7
  | brk=>obtain⟨σ7,H7,I7,q7⟩:=q7;exact⟨σ7,H7,I7.unpinned,q7⟩
  | ret v=>obtain⟨x7,σ7,H7,I7,r7,q7⟩:=q7;exact⟨x7,σ7,H7,I7.unpinned,r7,q7⟩
end
end L2
namespace L2
open PySem PySem.Spec PyProof.Rows
noncomputable abbrev R2:=V->V->Hp->VK->Prop
noncomputable def OpR (X:Cx) (f:Value->Value->Sem Value) (r:R2):Prop:=
 ∀(pins:List (Addr × Obj)) (s:Shared) (σ:St) (H:Hp) (x y:V) (v u:Value) (Q:VK),Inv X pins σ H s->RelV x v->RelV y u->r x y H Q->
  wpAny (model X.prog X.w) X.A (f v u) (EP X pins σ Q) X.xe s
noncomputable def zBl (X:Cx) (f:Value) (r:List V->Hp->VK->Prop):Prop:=
 ∀(pins:List (Addr × Obj)) (s:Shared) (σ:St) (H:Hp) (xs:List V) (us:List Value) (Q:VK),Inv X pins σ H s->Vals xs us->r xs H Q->
  wpAny (model X.prog X.w) X.A (call f us) (EP X pins σ Q) X.xe s
noncomputable def tOp (r:R2) (ta tb:TE):TE:=fun σ H Q=>ta σ H fun x H1=>tb σ H1 fun y H2=>r x y H2 Q
noncomputable def rI (C:Int->Int->Prop) (g:Int->Int->V):R2:=fun x y H Q=>∃i j,x=.int i/\y=.int j/\C i j/\Q (g i j) H
noncomputable def rI0 (g:Int->Int->V):R2:=fun x y H Q=>∃i j,x=.int i/\y=.int j/\Q (g i j) H
section
variable {X:Cx}{a b c:Expr}{ta tb tc:TE}{pos:Pos}
theorem binT (ha:PE X a ta) (hb:PE X b tb) {pins:List (Addr × Obj)}{s:Shared}{σ:St}{H:Hp}{R:V->V->Hp->Prop}(I:Inv X pins σ H s)
  (h:ta σ H fun x H1=>tb σ H1 fun y H2=>R x y H2) {Q:Value->Shared->Prop}{f:Value->Value->Sem Value}
  (hf:∀v u s2 x y H2,Inv X pins σ H2 s2->RelV x v->RelV y u->R x y H2->wpAny (model X.prog X.w) X.A (f v u) Q X.xe s2):
  wpAny (model X.prog X.w) X.A (eval a X.env) (fun v s₁=>wpAny (model X.prog X.w) X.A (eval b X.env) (fun u s₂=>wpAny (model X.prog X.w) X.A (f v u) Q X.xe s₂) X.xe s₁) X.xe s:=by
 refine thn (ha pins s σ H _ I h) fun v s1 hq1=>?_
 obtain⟨x,H1,I1,r1,q1⟩:=hq1
 refine thn (hb pins s1 σ H1 _ I1 q1) fun u s2 hq1=>?_
 obtain⟨y,H2,I2,r2,q2⟩:=hq1
 exact hf v u s2 x y H2 I2 r1 r2 q2
theorem zRx {op:Operator}{r:R2}(ho:OpR X (binaryOp op) r) (ha:PE X a ta) (hb:PE X b tb):PE X (.BinOp a op b pos) (tOp r ta tb):=by
 intro pins s σ H Q I h
 exact wpAny_BinOp (binT ha hb I h fun v u s2 x y H2 I2 rx ry q=>ho pins s2 σ H2 x y v u Q I2 rx ry q)
theorem opI {f:Value->Value->Sem Value}{C:Int->Int->Prop}{g:Int->Int->Int}
  (rule:∀(i j:Int) (t u:Tok) (s:Shared) (Q:Value->Shared->Prop) (E:Value->Shared->Prop),C i j->Q (.int (g i j) s.toks) { s with toks:=s.toks+1 }->wpAny (model X.prog X.w) X.A (f (.int i t) (.int j u)) Q E s):
  OpR X f (rI C fun i j=>.int (g i j)):=by
 intro pins s σ H x y v u Q I rx ry h
 obtain⟨i,j,rfl,rfl,hc,q⟩:=h
 obtain⟨t,rfl⟩:=rx
 obtain⟨t',rfl⟩:=ry
 exact rule i j t t' s _ _ hc ⟨.int (g i j),H,I.tok _,⟨_,rfl⟩,q⟩
theorem opI0 {f:Value->Value->Sem Value}{g:Int->Int->Int}
  (rule:∀(i j:Int) (t u:Tok) (s:Shared) (Q:Value->Shared->Prop) (E:Value->Shared->Prop),Q (.int (g i j) s.toks) { s with toks:=s.toks+1 }->wpAny (model X.prog X.w) X.A (f (.int i t) (.int j u)) Q E s):
  OpR X f (rI0 fun i j=>.int (g i j)):=by
 intro pins s σ H x y v u Q I rx ry h
 obtain⟨i,j,rfl,rfl,q⟩:=h
 obtain⟨t,rfl⟩:=rx
 obtain⟨t',rfl⟩:=ry
 exact rule i j t t' s _ _ ⟨.int (g i j),H,I.tok _,⟨_,rfl⟩,q⟩
theorem opB0 {f:Value->Value->Sem Value}{g:Int->Int->Bool}
  (rule:∀(i j:Int) (t u:Tok) (s:Shared) (Q:Value->Shared->Prop) (E:Value->Shared->Prop),Q (.bool (g i j)) s->wpAny (model X.prog X.w) X.A (f (.int i t) (.int j u)) Q E s):
  OpR X f (rI0 fun i j=>.bl (g i j)):=by
 intro pins s σ H x y v u Q I rx ry h
 obtain⟨i,j,rfl,rfl,q⟩:=h
 obtain⟨t,rfl⟩:=rx
 obtain⟨t',rfl⟩:=ry
 exact rule i j t t' s _ _ ⟨.bl (g i j),H,I,rfl,q⟩
noncomputable def CPow (i j:Int):Prop:=0<=j/\j<=1000000/\i.natAbs<2 ^ 64
theorem zQ4:OpR X (binaryOp .Add) (rI0 fun i j=>.int (i+j)):=opI0 fun _ _ _ _ _ _ _ q=>add_int q
theorem zPz:OpR X (binaryOp .Sub) (rI0 fun i j=>.int (i-j)):=opI0 fun _ _ _ _ _ _ _ q=>sub_int q
theorem zQ1:OpR X (binaryOp .Mod) (rI (fun _ j=>0<j) fun i j=>.int (i % j)):=opI fun i j _ _ _ _ _ hc q=>by
 have h1:(0:Int)<j:=hc
 exact mod_int' (by nofun) (by rw[Int.fmod_eq_emod_of_nonneg i (by nofun)];exact q)
theorem zQ0:OpR X (binaryOp .Pow) (rI CPow fun i j=>.int (i ^ j.toNat)):=opI fun _ _ _ _ _ _ _ hc q=>pow_int_small hc.1 hc.2.1 hc.2.2 q
end
noncomputable def scal:V->V->Bool
 | .non,.non=>true|.non,.int _=>true|.int _,.non=>true|.non,.bl _=>true|.bl _,.non=>true|.non,.str _=>true|.str _,.non=>true
 | .int _,.int _=>true|.bl _,.bl _=>true|.str _,.str _=>true|.byt _,.byt _=>true
 | .int _,.str _=>true|.str _,.int _=>true|.bl _,.str _=>true|.str _,.bl _=>true
 | _,_=>false
noncomputable def rEq:R2:=fun x y H Q=>scal x y=true/\Q (.bl (decide (x=y))) H
noncomputable def rNe:R2:=fun x y H Q=>scal x y=true/\Q (.bl (!decide (x=y))) H
theorem zIg {i j:Int}:decide (V.int i=V.int j)=(i == j):=by
 rw[vn]
 simp
theorem zLo {i j:Bool}:decide (V.bl i=V.bl j)=(i == j):=by
 rw[vn]
 simp
theorem zIf {i j:Str}:decide (V.str i=V.str j)=(i == j):=by
 rw[vn]
 simp
theorem zIh {i j:Array UInt8}:decide (V.byt i=V.byt j)=(i.toList == j.toList):=by
 rw[vn]
 cases i
 cases j
 simp
section
variable {X:Cx}{a b c:Expr}{ta tb tc:TE}{pos:Pos}
theorem zA7 {pins:List (Addr × Obj)}{σ:St}{H:Hp}{s:Shared}{Q:VK}{k k':Bool}(I:Inv X pins σ H s) (q:Q (.bl k) H) (e:k=k'):EP X pins σ Q (.bool k') s:=by
 subst e
 exact⟨.bl k,H,I,rfl,q⟩
theorem zN9:OpR X (compareOp .Eq) rEq:=by
 intro pins s σ H x y v u Q I rx ry h
 obtain⟨hs,q⟩:=h
 cases x with
 | non=>
  cases rx
  cases y with
  | non=>cases ry;exact PySem.EqNone.eq_none_none (zA7 I q (by simp))
  | bl j=>cases ry;exact PySem.EqNone.eq_none_bool (zA7 I q (by simp))
  | int j=>obtain⟨t',rfl⟩:=ry;exact PySem.EqNone.eq_none_int (zA7 I q (by simp))
  | str j=>obtain⟨t',rfl⟩:=ry;exact PySem.EqNone.eq_none_str (zA7 I q (by simp))
  | _=>exact absurd (show false=true from hs) xG
 | bl i=>
  cases rx
  cases y with
  | non=>cases ry;exact PySem.EqNone.eq_bool_none (zA7 I q (by simp))
  | bl j=>cases ry;exact eq_bool (zA7 I q zLo)
  | str j=>obtain⟨t',rfl⟩:=ry;exact PySem.EqMixed.eq_bool_str (zA7 I q (by simp))
  | _=>exact absurd (show false=true from hs) xG
 | int i=>
  obtain⟨t,rfl⟩:=rx
  cases y with
  | non=>cases ry;exact PySem.EqNone.eq_int_none (zA7 I q (by simp))
  | int j=>obtain⟨t',rfl⟩:=ry;exact eq_int (zA7 I q zIg)
  | str j=>obtain⟨t',rfl⟩:=ry;exact PySem.EqMixed.eq_int_str (zA7 I q (by simp))
  | _=>exact absurd (show false=true from hs) xG
 | str i=>
  obtain⟨t,rfl⟩:=rx
  cases y with
  | non=>cases ry;exact PySem.EqNone.eq_str_none (zA7 I q (by simp))
  | bl j=>cases ry;exact PySem.EqMixed.eq_str_bool (zA7 I q (by simp))
  | int j=>obtain⟨t',rfl⟩:=ry;exact PySem.EqMixed.eq_str_int (zA7 I q (by simp))
  | str j=>obtain⟨t',rfl⟩:=ry;exact eq_str (zA7 I q zIf)
  | _=>exact absurd (show false=true from hs) xG
 | byt i=>
  obtain⟨t,rfl⟩:=rx
  cases y with
  | byt j=>obtain⟨t',rfl⟩:=ry;exact PySem.W.eq_bytes (zA7 I q zIh)
  | _=>exact absurd (show false=true from hs) xG
 | _=>cases y <;> exact absurd (show false=true from hs) xG
theorem zN4:OpR X (compareOp .NotEq) rNe:=by
 intro pins s σ H x y v u Q I rx ry h
 obtain⟨hs,q⟩:=h
 cases x with
 | non=>
  cases rx
  cases y with
  | non=>cases ry;exact PySem.EqNone.ne_none_none (zA7 I q (by simp))
  | bl j=>cases ry;exact PySem.EqNone.ne_none_bool (zA7 I q (by simp))
  | int j=>obtain⟨t',rfl⟩:=ry;exact PySem.EqNone.ne_none_int (zA7 I q (by simp))
  | str j=>obtain⟨t',rfl⟩:=ry;exact PySem.EqNone.ne_none_str (zA7 I q (by simp))
  | _=>exact absurd (show false=true from hs) xG
 | bl i=>
  cases rx
  cases y with
  | non=>cases ry;exact PySem.EqNone.ne_bool_none (zA7 I q (by simp))
  | bl j=>cases ry;exact ne_bool (zA7 I q (congrArg not zLo))
  | str j=>obtain⟨t',rfl⟩:=ry;exact PySem.EqMixed.ne_bool_str (zA7 I q (by simp))
  | _=>exact absurd (show false=true from hs) xG
 | int i=>
  obtain⟨t,rfl⟩:=rx
  cases y with
  | non=>cases ry;exact PySem.EqNone.ne_int_none (zA7 I q (by simp))
  | int j=>obtain⟨t',rfl⟩:=ry;exact ne_int (zA7 I q (congrArg not zIg))
  | str j=>obtain⟨t',rfl⟩:=ry;exact PySem.EqMixed.ne_int_str (zA7 I q (by simp))
  | _=>exact absurd (show false=true from hs) xG
 | str i=>
  obtain⟨t,rfl⟩:=rx
  cases y with
  | non=>cases ry;exact PySem.EqNone.ne_str_none (zA7 I q (by simp))
  | bl j=>cases ry;exact PySem.EqMixed.ne_str_bool (zA7 I q (by simp))
  | int j=>obtain⟨t',rfl⟩:=ry;exact PySem.EqMixed.ne_str_int (zA7 I q (by simp))
  | str j=>obtain⟨t',rfl⟩:=ry;exact ne_str (zA7 I q (congrArg not zIf))
  | _=>exact absurd (show false=true from hs) xG
 | byt i=>
  obtain⟨t,rfl⟩:=rx
  cases y with
  | byt j=>obtain⟨t',rfl⟩:=ry;exact PySem.W.ne_bytes (zA7 I q (congrArg not zIh))
  | _=>exact absurd (show false=true from hs) xG
 | _=>cases y <;> exact absurd (show false=true from hs) xG
theorem zS2:OpR X (compareOp .Gt) (rI0 fun i j=>.bl (decide (j<i))):=opB0 fun _ _ _ _ _ _ _ q=>gt_int q
theorem zS3:OpR X (compareOp .GtE) (rI0 fun i j=>.bl (decide (j<=i))):=opB0 fun _ _ _ _ _ _ _ q=>ge_int q
theorem nomark (b:Expr) {op:CmpOp}(h:op≠.In:=by decide) (h2:op≠.NotIn:=by decide):behindInMarks op b=false:=by
 have e1:(op == CmpOp.In)=false:=by cases op <;> first|rfl|exact absurd rfl h
 have e2:(op == CmpOp.NotIn)=false:=by cases op <;> first|rfl|exact absurd rfl h2
 cases b <;> simp[behindInMarks,e1,e2]
theorem zMx {op:CmpOp}{r:R2}(ho:OpR X (compareOp op) r) (ha:PE X a ta) (hb:PE X b tb) (hm:behindInMarks op b=false):PE X (.Compare a [op] [b] pos) (tOp r ta tb):=by
 intro pins s σ H Q I h
 exact wpAny_Compare1 (binT ha hb I h fun v u s2 x y H2 I2 rx ry q=>ho pins s2 σ H2 x y v u Q I2 rx ry q) hm
noncomputable def zOz (t:TE):TT:=fun σ H Q=>t σ H fun x H'=>∃k,x=.bl k/\Q k H'
theorem zMe {op:CmpOp}{r:R2}(ho:OpR X (compareOp op) r) (ha:PE X a ta) (hb:PE X b tb) (hm:behindInMarks op b=false):PT X (.Compare a [op] [b] pos) (zOz (tOp r ta tb)):=by
 intro pins s σ H Q I h
 refine wpAny_isTrue_Compare1 (thn (ha pins s σ H _ I h) fun v s1 ⟨x,H1,I1,r1,q1⟩=>thn (hb pins s1 σ H1 _ I1 q1) fun u s2 ⟨y,H2,I2,r2,q2⟩=>
  thn (ho pins s2 σ H2 x y v u _ I2 r1 r2 q2) fun c s3 ⟨z,H3,I3,r3,k,e,q3⟩=>?_) hm
 subst e
 cases r3
 exact wpAny_truthy_bool ⟨H3,I3,q3⟩
theorem line63:(sizeLine:Nat)<2 ^ 63:=by rw[sizeLine_eq];decide
theorem zG1:OpR X (binaryOp .Add) (fun x y H Q=>∃i j,x=.str i/\y=.str j/\i.length+j.length<=sizeLine/\Q (.str (i++j)) H):=by
 intro pins s σ H x y v u Q I rx ry h
 obtain⟨i,j,rfl,rfl,hz,q⟩:=h
 obtain⟨t,rfl⟩:=rx
 obtain⟨t',rfl⟩:=ry
 exact add_str (fun t' tk=>⟨.str (i++j),H,I.tok _,⟨_,rfl⟩,q⟩) hz
theorem vals1 {x:V}{us:List Value}(r:Vals [x] us):∃u,us=[u]/\RelV x u:=by
 cases r with
 | cons r1 r2=>cases r2;exact⟨_,rfl,r1⟩
theorem vals2 {x y:V}{us:List Value}(r:Vals [x,y] us):∃u w',us=[u,w']/\RelV x u/\RelV y w':=by
 cases r with
 | cons r1 r2=>
  cases r2 with
  | cons r3 r4=>cases r4;exact⟨_,_,rfl,r1,r3⟩
theorem zIv (hc:X.calm=true):zBl X (.builtin "max") (fun xs H Q=>∃i j,xs=[.int i,.int j]/\Q (.int (if j > i then j else i)) H):=by
 intro pins s σ H xs us Q I r h
 obtain⟨i,j,rfl,q⟩:=h
 obtain⟨u,w',rfl,⟨t,rfl⟩,⟨t',rfl⟩⟩:=vals2 r
 refine max_two_ints (I.ok.hd hc) fun h' tk k=>⟨_,H,I.kept k,?_,q⟩
 by_cases hj:j > i
 ·rw[xb hj,xb hj];exact⟨_,rfl⟩
 ·rw[xc hj,xc hj];exact⟨_,rfl⟩
end
end L2
namespace L2
open PySem PySem.Spec PyProof.Rows
theorem zDu {h:Heap}{dx:Addr}{mA:Str->Option Value}(n:h.Ns1 dx mA):∃od,h.get? dx=some od/\∀name,PySem.W.lookIn name od=some (mA name):=by
 obtain⟨o,es,ep,ho,hd,hk,_,hm⟩:=n
 refine⟨o,ho,fun name=>?_⟩
 have e:=hm name
 unfold nsFind findBy at e
 rw[<- Array.find?_toList]at e
 unfold PySem.W.lookIn
 rw[hd]
 dsimp only
 split
 ·rename_i y q
  rw[q]at e
  exact congrArg some e
 ·rename_i q
  rw[q]at e
  have a:es.toList.any (·.refKey)=false:=by
   rw[List.any_eq_false]
   intro y hy
   obtain⟨z,t,hkey⟩:=hk y (Array.mem_toList_iff.mp hy)
   simp[DictEntry.refKey,hkey]
  have a':¬ es.toList.any (·.refKey)=true:=by rw[a];exact xG
  rw[xc a']
  exact congrArg some e
theorem RelO.some_of {v:V}{o:Option Value}(r:RelO (some v) o):∃u,o=some u/\RelV v u:=by
 cases o with
 | none=>exact(show False from r).elim
 | some u=>exact⟨u,rfl,r⟩
theorem zHy {v:V}{u:Value}(r:RelV v u):PySem.W.handedIn u=true:=by
 cases v with
 | non=>cases(show u=Value.none from r);rfl
 | bl b=>cases(show u=Value.bool b from r);rfl
 | int i=>obtain⟨t,e⟩:=(show ∃t,u=Value.int i t from r);cases e;rfl
 | str x=>obtain⟨t,e⟩:=(show ∃t,u=Value.str x t from r);cases e;rfl
 | byt b=>obtain⟨t,e⟩:=(show ∃t,u=Value.bytes b t from r);cases e;rfl
 | flt b=>obtain⟨t,e⟩:=(show ∃t,u=Value.float b t from r);cases e;rfl
 | ref a=>cases(show u=Value.ref a from r);rfl
 | ty n=>cases(show u=Value.type n from r);rfl
noncomputable def NoAttr (K:PySem.W.Frag) (C:Addr) (f:Str):Prop:=PySem.W.findIn K (.ref C) f=some none
theorem NoAttr.taker {K:PySem.W.Frag}{C:Addr}{f:Str}(n:NoAttr K C f):PySem.W.takerIn K C f=some none:=by
 unfold PySem.W.takerIn
 rw[show PySem.W.findIn K (.ref C) f=some none from n]
 rfl
section
variable {X:Cx}{pins:List (Addr × Obj)}{σ:St}{H:Hp}{s:Shared}{a C dx:Addr}{fs:List (Str × V)}{f:Str}{v:V}{A:Around}{E:Value->Shared->Prop}
theorem zOu {prog:Program}{w:World}{env:Env}{e:Expr}{f:Str}{pos:Pos}{s:Shared}{Q:Value->Shared->Prop}(hb:attributeBase e f env (eval e env)=eval e env)
  (h:wpAny (model prog w) A (eval e env) (fun o s₁=>wpAny (model prog w) A (getAttr o f true) Q E s₁) E s):wpAny (model prog w) A (eval (.Attribute e f pos) env) Q E s:=
 Attribute_any_ h (by rw[arm_eval_Attribute,hb])
end
end L2
namespace L2
open PySem PySem.Spec PyProof.Rows
structure Room (k:Nat) (A:Around):Prop where
 hd:A.handled=none
 dp:A.depth+3*k+5<recursionLimit
 un:A.units+16*k+200<cLine
theorem Room.mono {j k:Nat}{A:Around}(r:Room k A) (h:j<=k):Room j A:=⟨r.hd,by have:=r.dp;lia,by have:=r.un;lia⟩
theorem Room.deeper {k:Nat}{A:Around}(r:Room (k+1) A) (env:Env):Room k (A.deeper env):=
 ⟨r.hd,by have:=r.dp;show A.depth+1+3*k+5<_;lia,by have:=r.un;show A.units+3+16*k+200<_;lia⟩
theorem zG4 {A:Around}{C:Addr}{us:List Value}{kw:List (Str × Value)}:(A.under (.builtin "type.__call__" ⟨.ref C::us,kw⟩)).depth=A.depth+1:=by
 first|rfl|simp[Around.under,Code.weight,Code.isCreation,Code.isGuard,Code.isCaller,Code.frames,Code.isFrame,guardIds]
theorem zG3 {A:Around}{C:Addr}{us:List Value}{kw:List (Str × Value)}:(A.under (.builtin "type.__call__" ⟨.ref C::us,kw⟩)).units=A.units+1:=by
 first|rfl|simp[Around.under,Code.cUnits,Code.frames,Code.isFrame]
theorem Room.make {k:Nat}{A:Around}(r:Room (k+1) A) (C:Addr) (us:List Value) (kw:List (Str × Value)):Room k (A.under (.builtin "type.__call__" ⟨.ref C::us,kw⟩)):=
 ⟨r.hd,by have:=r.dp;rw[zG4];lia,by have:=r.un;rw[zG3];lia⟩
theorem Room.depth {k:Nat}{A:Around}(r:Room k A):A.depth<recursionLimit:=by have:=r.dp;lia
theorem Room.units {k:Nat}{A:Around}(r:Room k A):A.units+64<cLine:=by have:=r.un;lia
theorem Room.units0 {k:Nat}{A:Around}(r:Room k A):A.units<cLine:=by have:=r.un;lia
noncomputable def tNil:TA:=fun _ H Q=>Q [] H
noncomputable def zLz (ta:TE) (tr:TA):TA:=fun σ H Q=>ta σ H fun x H1=>tr σ H1 fun xs H2=>Q (x::xs) H2
section
variable {X:Cx}{e:Expr}{es:List Expr}{te:TE}{t:TA}{pos:Pos}
theorem zPy:PA X [] tNil:=fun _ _ _ _ H Q I h=>Calls.spliced_nil ⟨[],H,I,.nil,h⟩
theorem zN0 (ha:PE X e te) (hr:PA X es t) (hs:starEach (e::es) X.env=(false,eval e X.env)::starEach es X.env:=by rfl):PA X (e::es) (zLz te t):=by
 intro pos pins s σ H Q I h
 rw[hs]
 show wpAny _ _ (spliced ((false,eval e X.env)::backTo pos (starEach es X.env))) _ _ s
 refine Calls.spliced_cons (thn (ha pins s σ H _ I h) fun u s1 hq1=>?_)
 obtain⟨x,H1,I1,r1,q1⟩:=hq1
 exact thn (hr pos pins s1 σ H1 _ I1 q1) fun us s2 hz4=>by obtain⟨xs,H2,I2,r2,q2⟩:=hz4;exact ⟨x::xs,H2,I2,.cons r1 r2,q2⟩
noncomputable def tTup (t:TA):TE:=fun σ H Q=>t σ H fun xs H1=>xs.length<=sizeLine/\∀p,H1 p=none->Q (.ref p) (upd H1 p (.tup xs))
noncomputable def tLst (t:TA):TE:=fun σ H Q=>t σ H fun xs H1=>xs.length<=sizeLine/\∀p,H1 p=none->Q (.ref p) (upd H1 p (.lst xs))
theorem zPo {x1} (h:PA X es t):PE X (.Tuple es x1 pos) (tTup t):=by
 intro pins s σ H Q I hq
 refine wpAny_Tuple_spliced (thn (h pos pins s σ H _ I hq) fun us s1 ⟨xs,H1,I1,r,z,q⟩=>⟨by rw[<- r.length];exact z,?_⟩)
 have hf:H1 s1.heap.objs.size=none:=I1.hok.fresh (xh _)
 refine⟨.ref s1.heap.objs.size,upd H1 s1.heap.objs.size (.tup xs),I1.laid (t':=s1.toks) (fun b u e=>xl _ e) (xh _) ?_,rfl,q _ hf⟩
 exact⟨z,us,r,⟨_,xv _ rfl,rfl,_,rfl⟩⟩
theorem zPr (h:PA X es t):PE X (.List es pos) (tLst t):=by
 intro pins s σ H Q I hq
 refine wpAny_List_spliced (thn (h pos pins s σ H _ I hq) fun us s1 ⟨xs,H1,I1,r,z,q⟩=>⟨by rw[<- r.length];exact z,?_⟩)
 have hf:H1 s1.heap.objs.size=none:=I1.hok.fresh (xh _)
 refine⟨.ref s1.heap.objs.size,upd H1 s1.heap.objs.size (.lst xs),I1.laid (t':=s1.toks) (fun b u e=>xl _ e) (xh _) ?_,rfl,q _ hf⟩
 exact⟨z,us,0,r,xv _ rfl⟩
end
noncomputable abbrev Sp:=List V->Hp->VK->XK->Prop
noncomputable abbrev CXT:=List Env->Hp->Shared->XK->Value->Shared->Prop
structure Env0 (P:Program) (w:World) (K:PySem.W.Frag) (mg:Str->Option Value) (base:Heap) (A:Around) (outer:List Env) (s:Shared) (H:Hp):Prop where
 frames:A.frames=some outer
 mod:Mod K mg base
 bs:∀b o,base.get? b=some o->s.heap.get? b=some o/\H b=none
 bsz:base.objs.size<=s.heap.objs.size
 funs:s.heap.FunFrames base outer
 frf:∀b∈frs outer,H b=none
 hok:HOk P w H s.heap
 bare:AllBare s.gens
 gds:A.guards=some []
noncomputable def CE (outer:List Env) (P:Program) (w:World) (H:Hp) (s:Shared) (Q:VK) (u:Value) (s':Shared):Prop:=
 ∃v H',s'.os=s.os/\AllBare s'.gens/\Un (frs outer) [] H H' s.heap s'.heap/\HOk P w H' s'.heap/\RelV v u/\Q v H'
noncomputable def CR (CX:CXT) (outer:List Env) (P:Program) (w:World) (H:Hp) (s:Shared) (Q:VK) (E:XK) (r:Result) (s':Shared):Prop:=
 match r with
 | .ok (.ret u)=>CE outer P w H s Q u s'
 | .ok _=>False
 | .error e=>CX outer H s E e s'
structure FnOk (P:Program) (w:World) (K:PySem.W.Frag) (mg:Str->Option Value) (base:Heap) (CX:CXT) (k:Nat) (f:Addr) (fd:FuncData) (ps:List Str) (sp:Sp):Prop where
 len:∀vs H Q E,sp vs H Q E->vs.length=ps.length
 run:∀(A:Around) (outer:List Env) (s:Shared) (H:Hp) (args:Args) (us:List Value) (vs:List V) (Q:VK) (E:XK),Room k A->Env0 P w K mg base A outer s H->BindsTo s fd args (ps.zip us)->Vals vs us->sp vs H Q E->
  codeAny (model P w) A (.call (.ref f) args) (CR CX outer P w H s Q E) s
theorem Env0.make {P:Program}{w:World}{K:PySem.W.Frag}{mg:Str->Option Value}{base:Heap}{A:Around}{outer:List Env}{s:Shared}{H:Hp}(e:Env0 P w K mg base A outer s H) (C:Addr) (us:List Value) (kw:List (Str × Value)):
  Env0 P w K mg base (A.under (.builtin "type.__call__" ⟨.ref C::us,kw⟩)) outer s H:=⟨by first|exact e.frames|(simpa[Around.under,Code.envs,Code.isFrame,pushEnvs]using e.frames),e.mod,e.bs,e.bsz,e.funs,e.frf,e.hok,e.bare,by first|exact e.gds|(simp[Around.under,Code.guards,Code.isGuard,guardIds,pushGuards,e.gds])⟩
section
variable {X:Cx}{pins:List (Addr × Obj)}{σ:St}{H:Hp}{s s':Shared}
theorem Inv.env0 (I:Inv X pins σ H s):Env0 X.prog X.w X.K X.mg X.base X.A X.stack s H:=
 ⟨I.ok.frames,I.ok.mod,I.bs,xq I.ok.bsz I.sz,I.stack,I.stkFree,I.hok,I.bare,I.ok.gds⟩
theorem Inv.after {Q:VK}{u:Value}(I:Inv X pins σ H s) (h:CE X.stack X.prog X.w H s Q u s'):EP X pins σ Q u s':=by
 obtain⟨v,H',os,bare,un,hok,r,q⟩:=h
 obtain⟨hh,g,d,t,os'⟩:=s'
 obtain rfl:os'=s.os:=os
 exact⟨v,H',I.call (h':=hh) (g':=g) (d':=d) (t':=t) (ch:=[]) un hok bare (fun b z=>absurd z (by simp)),r,q⟩
end
noncomputable def zJ8 (sp:Sp) (dvs:List V) (E:XK) (t:TA):TE:=fun σ H Q=>t σ H fun vs H1=>sp (vs++dvs) H1 Q E
noncomputable def Binds (K:PySem.W.Frag) (fd:FuncData) (ps:List Str) (ds:List Value):Prop:=
 ∀(s:Shared) (us:List Value),K.In s.heap->(us++ds).length=ps.length->BindsTo s fd ⟨us,[]⟩ (ps.zip (us++ds))
theorem Binds.all {K:PySem.W.Frag}{fd:FuncData}{ps:List Str}(h:∀us:List Value,us.length=ps.length->bindArgs fd ⟨us,[]⟩=pure (ps.zip us)):Binds K fd ps []:=fun s us _ hl=>by
 rw[vo]at hl ⊢
 exact .of_eq (h us hl)
noncomputable def Passes (CX:CXT) (X:Cx) (E:XK):Prop:=∀(pins:List (Addr × Obj)) (σ:St) (H:Hp) (s:Shared) (e:Value) (s':Shared),Inv X pins σ H s->CX X.stack H s E e s'->X.xe e s'
section
variable {X:Cx}{CX:CXT}{k:Nat}{f C:Addr}{fd:FuncData}{ps:List Str}{sp:Sp}{dvs:List V}{ds:List Value}{E:XK}{x m:Str}{p pos apos:Pos}{e o:Expr}{es:List Expr}{ta:TE}{t:TA}
theorem zP6 {pins:List (Addr × Obj)}{σ:St}{H:Hp}{s:Shared}{Q:VK}{us:List Value}{vs:List V}(F:FnOk X.prog X.w X.K X.mg X.base CX k f fd ps sp) (hr:Room k X.A) (hb:Binds X.K fd ps ds) (hd:Vals dvs ds) (hx:Passes CX X E)
  (I:Inv X pins σ H s) (r:Vals vs us) (h:sp (vs++dvs) H Q E):wpAny (model X.prog X.w) X.A (call (.ref f) us) (EP X pins σ Q) X.xe s:=by
 have r2:Vals (vs++dvs) (us++ds):=r.append hd
 have hl:(us++ds).length=ps.length:=by rw[<- r2.length];exact F.len _ _ _ _ h
 refine wpAny_call (codeAny_mono (F.run X.A X.stack s H ⟨us,[]⟩ (us++ds) (vs++dvs) Q E hr I.env0 (hb s us I.kIn hl) r2 h) fun r s' hq=>?_)
 cases r with
 | error e=>exact hx pins σ H s e s' I hq
 | ok fl=>
  cases fl with
  | ret u=>exact I.after hq
  | next=>exact False.elim hq
  | brk=>exact False.elim hq
  | cont=>exact False.elim hq
theorem zMy (F:FnOk X.prog X.w X.K X.mg X.base CX k f fd ps sp) (hr:Room k X.A) (hg:Gl X x) (hm:X.mg x=some (.ref f)) (hk:PySem.W.keepIn X.K (.ref f)=true) (hb:Binds X.K fd ps ds) (hd:Vals dvs ds) (hx:Passes CX X E)
  (ha:PA X (e::es) t) (hdb:(x == ("__debug__":Str))=false:=by decide) (he:starEach (e::es) X.env=(false,eval e X.env)::starEach es X.env:=by rfl) (hpl:(backTo pos (starEach es X.env)).any (·.1)=false:=by rfl):
  PE X (.Call (.Name x p) (e::es) [] pos) (zJ8 sp dvs E t):=by
 intro pins s σ H Q I h
 refine vp (zCb I hg hm ?_ hdb)
 refine PySem.W.callWith_K (h₀:=X.base) I.ok.mod.kin hk (thn (ha pos pins s σ H _ I h) fun us s1 ⟨vs,H1,I1,r,q⟩=>⟨I1.kIn,?_⟩) he hpl
 exact zP6 F hr hb hd hx I1 r q
end
structure zBe (N P:List Str) (sc:Scope):Prop where
 kind:sc.kind=.function
 co:sc.isCoroutine=false
 gen:sc.isGenerator=false
 nd:N.Nodup
 pre:N.take P.length=P
 par:∀x∈P,sc.names.lookup x=some .local\/sc.names.lookup x=some .cell
 nofree:∀y∈sc.names,y.2≠.free
theorem zE9 {kindOf:Str->Option NameKind}{x:Str}:∀{binds:List (Str × Value)}{m:Str->Option Value},(∀v,(x,v) ∉ binds)->bindL kindOf binds m x=m x
 | [],_,_=>rfl
 | (n,v)::r,m,h=>by
  unfold bindL
  rw[zE9 fun w hw=>h w (xS _ hw)]
  split
  ·have:x≠n:=by rintro rfl;exact h v xP
   simp[this]
  ·rfl
theorem zEb {kindOf:Str->Option NameKind}{x:Str}:∀{binds:List (Str × Value)}{m:Str->Option Value},(∀v,(x,v) ∉ binds)->bindC kindOf binds m x=m x
 | [],_,_=>rfl
 | (n,v)::r,m,h=>by
  unfold bindC
  rw[zEb fun w hw=>h w (xS _ hw)]
  split
  ·rfl
  ·have:x≠n:=by rintro rfl;exact h v xP
   simp[this]
theorem zEa {kindOf:Str->Option NameKind}{x:Str}{v:Value}:∀{P:List Str}{vs:List Value}{i:Nat}{m:Str->Option Value},P.Nodup->P[i]?=some x->vs[i]?=some v->kindOf x=some .local->
  bindL kindOf (P.zip vs) m x=some v
 | [],_,_,_,_,h,_,_=>by simp at h
 | _::_,[],_,_,_,_,h,_=>by simp at h
 | p::P,w::vs,0,m,nd,h1,h2,hk=>by
  simp at h1 h2;subst h1;subst h2
  show bindL kindOf ((p,w)::P.zip vs) m p=_
  unfold bindL
  rw[zE9 fun v hv=>(vq.mp nd).1 (List.of_mem_zip hv).1,xb hk]
  simp
 | p::P,w::vs,i+1,m,nd,h1,h2,hk=>by
  show bindL kindOf ((p,w)::P.zip vs) m x=_
  unfold bindL
  exact zEa (i:=i) (vq.mp nd).2 (by simpa using h1) (by simpa using h2) hk
theorem zEc {kindOf:Str->Option NameKind}{x:Str}{v:Value}:∀{P:List Str}{vs:List Value}{i:Nat}{m:Str->Option Value},P.Nodup->P[i]?=some x->vs[i]?=some v->kindOf x≠some .local->
  bindC kindOf (P.zip vs) m x=some v
 | [],_,_,_,_,h,_,_=>by simp at h
 | _::_,[],_,_,_,_,h,_=>by simp at h
 | p::P,w::vs,0,m,nd,h1,h2,hk=>by
  simp at h1 h2;subst h1;subst h2
  show bindC kindOf ((p,w)::P.zip vs) m p=_
  unfold bindC
  rw[zEb fun v hv=>(vq.mp nd).1 (List.of_mem_zip hv).1,xc hk]
  simp
 | p::P,w::vs,i+1,m,nd,h1,h2,hk=>by
  show bindC kindOf ((p,w)::P.zip vs) m x=_
  unfold bindC
  exact zEc (i:=i) (vq.mp nd).2 (by simpa using h1) (by simpa using h2) hk
noncomputable def start (N:List Str) (vs:List V):St:=vs.map some++List.replicate (N.length-vs.length) none
noncomputable def cxOf (CX:CXT) (P:Program) (w:World) (K:PySem.W.Frag) (mg:Str->Option Value) (base:Heap) (N:List Str) (qual:Str) (scope:Scope) (f:Addr) (cd:Value) (A:Around) (outer:List Env) (s:Shared) (H:Hp) (E:XK):Cx where
 prog:=P
 w:=w
 K:=K
 mg:=mg
 base:=base
 A:=A.deeper (envOfC qual scope s.heap.objs.size f cd)
 N:=N
 s₀:=s
 H₀:=H
 env:=envOfC qual scope s.heap.objs.size f cd
 outer:=outer
 stack:=envOfC qual scope s.heap.objs.size f cd::outer
 ex:=[]
 calm:=true
 fn:=fun _=>true
 pn:=[]
 xe:=fun e s'=>wpAny (model P w) (A.deeper (envOfC qual scope s.heap.objs.size f cd)) (leaving (envOfC qual scope s.heap.objs.size f cd) e) (fun _ s''=>CX outer H s E e s'') (fun e' s''=>CX outer H s E e' s'') s'
theorem zFr {sc:Scope}{n:Nat}{x:Str}(h:sc.names.lookup x=some .cell):∃c,(cellsFrom n sc.names []).lookup x=some c:=by
 have q:=PySem.W.cellsFrom_some sc.names n [] (.inl h)
 exact Option.isSome_iff_exists.mp q
theorem zHv {CX:CXT}{P:Program}{w:World}{K:PySem.W.Frag}{mg:Str->Option Value}{base:Heap}{N ps:List Str}{qual:Str}{scope:Scope}{f:Addr}{cd:Value}{A:Around}{outer:List Env}{s s1:Shared}{H:Hp}{E:XK}{us:List Value}{vs:List V}
  (S:zBe N ps scope) (hd:A.handled=none) (e0:Env0 P w K mg base A outer s H) (hl:vs.length=ps.length) (r:Vals vs us)
  (x:InCallC s s.heap.objs.size (bindL (envOfC qual scope s.heap.objs.size f cd).kindOf (ps.zip us) fun _=>none) (cellsFrom (s.heap.objs.size+1) scope.names []) (bindC (envOfC qual scope s.heap.objs.size f cd).kindOf (ps.zip us) fun _=>none) s1):
  Inv (cxOf CX P w K mg base N qual scope f cd A outer s H E) [] (start N vs) H s1:=by
 have hpl:ps.length<=N.length:=by have:=congrArg List.length S.pre;rw[x6]at this;lia
 obtain⟨h1,tk,rfl,hk⟩:=x.done
 have noA:∀b:Addr,b ∉ (cxOf CX P w K mg base N qual scope f cd A outer s H E).ex:=fun b z=>absurd (show b∈([]:List Addr)from z) (by simp)
 refine⟨⟨e0.mod,S.kind,rfl,rfl,xh _,fun y z c h1 h2=>?_,fun y hy=>?_,fun y c _ h=>?_,fun _=>hd,Around.frames_deeper e0.frames,.inr ⟨rfl,rfl⟩,fun b z=>absurd z (noA b),e0.bs,e0.bsz,fun b _ _=>noA b,fun b z=>absurd z (noA b),e0.funs,e0.frf,e0.gds⟩,
  rfl,e0.bare,Un.kept hk,⟨_,x.toInCall.ns,fun i y v h1 h2 h3=>?_⟩,fun y c h=>⟨_,x.cell y c h⟩,e0.hok.fresh (xh _),fun y c h=>?_,fun p hp=>absurd (show p∈([]:List (Addr × Obj))from hp) (by simp),e0.hok.kept hk,?_⟩
 ·exact name_of_addr x.apart (vt h1) (vt h2)
 ·have hy:scope.names.lookup y=some .cell\/scope.names.lookup y=some .free:=hy
  rcases hy with hy|hy
  ·exact zFr hy
  ·exact absurd rfl (S.nofree _ (vt hy))
 ·exact Nat.le_of_lt (x.above y c (vt h))
 ·have hi:i<vs.length:=by
   unfold start at h2
   by_cases hi:i<vs.length
   ·exact hi
   ·rw[xU (by simpa using hi)]at h2
    rw[List.getElem?_replicate]at h2
    split at h2 <;> cases h2
  have ha:vs[i]?=some v:=by
   unfold start at h2
   rw[xK (by simpa using hi),xV]at h2
   cases e:vs[i]? with
   | none=>rw[e]at h2;cases h2
   | some a=>rw[e]at h2;cases h2;rfl
  obtain⟨u,hu,rv⟩:=r.get ha
  have hp:ps[i]?=some y:=by
   rw[<- S.pre,vi (by nofun)];exact h1
  have ndP:ps.Nodup:=by rw[<- S.pre];exact S.nd.sublist (List.take_sublist _ _)
  refine⟨u,rv,?_⟩
  rcases S.par y (vO hp)with k|k
  ·exact .inl ⟨k,zEa ndP hp hu k⟩
  ·obtain⟨c,e⟩:=zFr (n:=s.heap.objs.size+1) k
   refine .inr ⟨.inl k,c,e,?_⟩
   have q:=x.cell y c e
   rw[zEc ndP hp hu (by show scope.names.lookup y≠_;rw[k];decide)]at q
   exact q
 ·exact e0.hok.fresh (Nat.le_of_lt (x.above y c (vt h)))
 ·unfold start
  show _=N.length
  rw[xZ,xE,List.length_replicate]
  lia
theorem zSb {CX:CXT}{P:Program}{w:World}{K:PySem.W.Frag}{mg:Str->Option Value}{base:Heap}{k:Nat}{f:Addr}{name qual:Str}{params:Arguments}{body:List Stmt}{scope:Scope}{dV kV doc pm cdv ct oc:Value}{an od:Option Addr}
  {osl:Array (Option Value)}{N ps:List Str}{sp:Sp}(lk:K.lookup f=some ⟨oc,od,.func (PySem.W.fnOf name qual params body scope dV kV doc pm an cdv ct),osl⟩) (hcd:PySem.W.codeIn K cdv qual=true) (S:zBe N ps scope)
  (len:∀vs H Q E,sp vs H Q E->vs.length=ps.length)
  (hbody:∀(A:Around) (outer:List Env) (s:Shared) (H:Hp) (vs:List V) (Q:VK) (E:XK),Room k (A.deeper (envOfC qual scope s.heap.objs.size f cdv))->sp vs H Q E->
   ∃t,PSs (cxOf CX P w K mg base N qual scope f cdv A outer s H E) body t/\t { nx:=fun _ H'=>Q .non H',rt:=Q } (start N vs) H):
  FnOk P w K mg base CX (k+1) f (PySem.W.fnOf name qual params body scope dV kV doc pm an cdv ct) ps sp:=by
 refine⟨len,fun A outer s H args us vs Q E hr e0 hb r hsp=>?_⟩
 have hl:=len _ _ _ _ hsp
 have KX:K.In s.heap:=e0.mod.kin.keeps fun b o e=>(e0.bs b o e).1
 have lim:s.heap.NoLimit:=e0.mod.nolimit.keeps fun b o e=>(e0.bs b o e).1
 have hkind:∀y∈ps.zip us,scope.names.lookup y.1=some .local\/(scope.names.lookup y.1=some .cell/\((cellsFrom (s.heap.objs.size+1) scope.names []).lookup y.1).isSome=true):=fun⟨n,v⟩ hy=>by
  rcases S.par n (List.of_mem_zip hy).1 with q|q
  ·exact .inl q
  ·exact .inr ⟨q,PySem.W.cellsFrom_some _ _ _ (.inl q)⟩
 refine codeAny_call_function hr.depth (KX _ _ lk) rfl S.co S.gen rfl (PySem.W.codeRec_of KX hcd) (hb _ _ _ _ ?_)
 refine wpAny_newFunctionEnv_cells S.kind hkind fun env he s1 x=>?_
 subst he
 refine⟨lim.keeps x.toInCall.keep,codeAny_func ?_⟩
 obtain⟨t,ht,hq⟩:=hbody A outer s H vs Q E (hr.deeper _) hsp
 have I:Inv (cxOf CX P w K mg base N qual scope f cdv A outer s H E) [] (start N vs) H s1:=zHv S hr.hd e0 hl r x
 refine xw (ht [] s1 (start N vs) H _ I hq) (fun fl s' hs=>?_) fun e s' hs=>hs
 have fin:∀{σ':St}{H':Hp}{v:V}{u:Value},Inv (cxOf CX P w K mg base N qual scope f cdv A outer s H E) [] σ' H' s'->RelV v u->Q v H'->CE outer P w H s Q u s':=
  fun {σ' H' v u} J rv q=>⟨v,H',J.os,J.bare,J.base,J.hok,rv,q⟩
 cases fl with
 | ret u=>
  obtain⟨v,σ',H',J,rv,q⟩:=hs
  exact fin J rv q
 | next=>
  obtain⟨σ',H',J,q⟩:=hs
  exact fin (v:=V.non) (u:=Value.none) J rfl q
 | brk=>
  obtain⟨_,_,_,q⟩:=hs
  exact False.elim q
 | cont=>
  obtain⟨_,_,_,q⟩:=hs
  exact False.elim q
end L2
namespace L2
open PySem PySem.Spec PyProof.Rows
section
variable {X:Cx}{x:Str}{p pos:Pos}{e:Expr}{es:List Expr}{t:TA}{id T:String}{r:List V->Hp->VK->Prop}
noncomputable def tCB (r:List V->Hp->VK->Prop) (t:TA):TE:=fun σ H Q=>t σ H fun vs H1=>r vs H1 Q
theorem zK0 (hc:zBl X (.builtin id) r) (hg:Gl X x) (hm:X.mg x=none) (hv:bootBuiltins x=some (.builtin id)) (ha:PA X (e::es) t) (hn:x≠"__name__":=by decide) (hdb:(x == ("__debug__":Str))=false:=by decide)
  (he:starEach (e::es) X.env=(false,eval e X.env)::starEach es X.env:=by rfl) (hpl:(backTo pos (starEach es X.env)).any (·.1)=false:=by rfl):PE X (.Call (.Name x p) (e::es) [] pos) (tCB r t):=by
 intro pins s σ H Q I h
 refine vp (zDv I hg hm hv ?_ hn hdb)
 exact PyProof.Rows.callWith_builtin1 (thn (ha pos pins s σ H _ I h) fun us s1 hz5=>by obtain⟨vs,H1,I1,r1,q1⟩:=hz5;exact hc pins s1 σ H1 vs us Q I1 r1 q1) he hpl
end
end L2
namespace L2
open PySem PySem.Spec PyProof.Rows
section
variable {κ:Type}[DecidableEq κ]
noncomputable def valV (kvs:List (κ × V)) (k:κ):Option V:=(kvs.find? fun kv=>decide (kv.1=k)).map (·.2)
noncomputable def putK (kvs:List (κ × V)) (k:κ) (v:V):List (κ × V):=
 if(kvs.any fun kv=>decide (kv.1=k))=true then kvs.map (fun kv=>if kv.1=k then(kv.1,v)else kv)else kvs++[(k,v)]
theorem zD2 {p:κ × V}{r:List (κ × V)}{k:κ}(e:p.1=k):valV (p::r) k=some p.2:=by simp[valV,vw,e]
theorem zD3 {p:κ × V}{r:List (κ × V)}{k:κ}(e:¬ p.1=k):valV (p::r) k=valV r k:=by simp[valV,vw,e]
theorem zCa (kvs:List (κ × V)) (k:κ) (v:V):(putK kvs k v).length<=kvs.length+1:=by
 unfold putK
 split
 ·rw[xE];lia
 ·rw[xZ,xH,vx];lia
theorem KV.val {kvs:List (κ × V)}{vs:List (κ × Value)}(r:KV kvs vs) (k:κ):RelO (valV kvs k) (valueAt vs k):=by
 unfold KV at r
 induction r with
 | nil=>exact True.intro
 | @cons p q ps qs h t ih=>
  obtain⟨h1,h2⟩:=h
  by_cases e:p.1=k
  ·have e':q.1=k:=h1.symm.trans e
   have b:valueAt (q::qs) k=some q.2:=by simp[valueAt,vw,e']
   rw[zD2 e,b];exact h2
  ·have e':¬ q.1=k:=fun z=>e (h1.trans z)
   have b:valueAt (q::qs) k=valueAt qs k:=by simp[valueAt,vw,e']
   rw[zD3 e,b];exact ih
theorem KV.any {kvs:List (κ × V)}{vs:List (κ × Value)}(r:KV kvs vs) (k:κ):(kvs.any fun kv=>decide (kv.1=k))=vs.any fun kv=>decide (kv.1=k):=by
 unfold KV at r
 induction r with
 | nil=>rfl
 | cons h t ih=>rw[List.any_cons,List.any_cons,ih,h.1]
theorem KV.repl {kvs:List (κ × V)}{vs:List (κ × Value)}(r:KV kvs vs) (k:κ) {y:V}{u:Value}(ry:RelV y u):
  KV (kvs.map fun kv=>if kv.1=k then(kv.1,y)else kv) (vs.map fun kv=>if kv.1=k then(kv.1,u)else kv):=by
 unfold KV at r ⊢
 induction r with
 | nil=>exact .nil
 | @cons p q ps qs h t ih=>
  rw[xt,xt]
  refine .cons ?_ ih
  obtain⟨h1,h2⟩:=h
  by_cases e:p.1=k
  ·rw[xb e,xb (h1.symm.trans e)];exact⟨h1,ry⟩
  ·rw[xc e,xc (fun z=>e (h1.trans z))];exact⟨h1,h2⟩
theorem KV.put {kvs:List (κ × V)}{vs:List (κ × Value)}(r:KV kvs vs) (k:κ) {y:V}{u:Value}(ry:RelV y u):KV (putK kvs k y) (stored vs k u):=by
 unfold putK stored
 rw[r.any k]
 by_cases e:(vs.any fun kv=>decide (kv.1=k))=true
 ·rw[xb e,xb e];exact r.repl k ry
 ·rw[xc e,xc e];exact Paired.snoc r ⟨rfl,ry⟩
theorem KV.length {kvs:List (κ × V)}{vs:List (κ × Value)}(r:KV kvs vs):kvs.length=vs.length:=Paired.length r
end
theorem zKb {P:Program}{w:World}{k:Key}{u:Value}(r:RelV (kV k) u):(zAg P w).is k u=true:=by
 cases k with
 | inl i=>obtain⟨t,e⟩:=(show ∃t,u=Value.int i t from r);subst e;exact zEl P w i t
 | inr x=>obtain⟨t,e⟩:=(show ∃t,u=Value.str x t from r);subst e;exact zEk P w x t
theorem zDy {P:Program}{w:World}:∀{ks:List Key}{us:List Value},Vals (ks.map kV) us->ItemsAre (zAg P w) ks us
 | [],_,r=>by rw[x4]at r;cases r;exact .nil
 | k::ks,_,r=>by
  rw[xt]at r
  cases r with
  | cons h t=>exact .cons (zKb h) (zDy t)
noncomputable abbrev KT (H:Hp):List (List Key × V)->List (List Key × Addr × Value)->Prop:=Paired fun p q=>p.1=q.1/\H q.2.1=some (.tup (p.1.map kV))/\RelV p.2 q.2.2
theorem KT.val {H:Hp}{kvs:List (List Key × V)}{xs:List (List Key × Addr × Value)}(r:KT H kvs xs) (k:List Key):RelO (valV kvs k) ((atKey xs k).map (·.2)):=by
 induction r with
 | nil=>exact True.intro
 | @cons p q ps qs h t ih=>
  obtain⟨h1,_,h2⟩:=h
  by_cases e:p.1=k
  ·have e':q.1=k:=h1.symm.trans e
   have b:atKey (q::qs) k=some q.2:=by simp[atKey,vw,e']
   rw[zD2 e,b];exact h2
  ·have e':¬ q.1=k:=fun z=>e (h1.trans z)
   have b:atKey (q::qs) k=atKey qs k:=by simp[atKey,vw,e']
   rw[zD3 e,b];exact ih
section
variable {P:Program}{w:World}{H:Hp}{h:Heap}{a:Addr}
theorem zJe {u:HO}(ok:HOk P w H h) (e:Rd H a u):ObjOk P w H h a u:=e.ok ok
theorem zKt {kvs:List (Key × V)}(ok:HOk P w H h) (e:Rd H a (.dK kvs)):kvs.length<=sizeLine/\(a == sysModules)=false/\∃vs,KV kvs vs/\h.DictOf (zAg P w) a vs:=
 show ObjOk P w H h a (.dK kvs)from zJe ok e
theorem zQx {kvs:List (Key × V)}(ok:HOk P w H h) (e:H a=some (.dK kvs)):kvs.length<=sizeLine/\(a == sysModules)=false/\∃vs,KV kvs vs/\h.DictOf (zAg P w) a vs:=zKt ok (.inl e)
theorem zLe {ks:List Key}(ok:HOk P w H h) (e:H a=some (.tup (ks.map kV))):(tupleKind (zAg P w)).is h ks a:=by
 obtain⟨_,its,r,o,h1,h2,n,h3⟩:=(show ObjOk P w H h a (.tup (ks.map kV))from ok a _ e)
 exact⟨o,its.toArray,n,h1,h2,h3,by simpa using zDy r⟩
theorem zO9 {kvs:List (List Key × V)}(ok:HOk P w H h) (e:Rd H a (.dT kvs)):kvs.length<=sizeLine/\(a == sysModules)=false /\
  ∃xs,KT H kvs xs/\h.DictOfH (tupleKind (zAg P w)) a xs:=by
 obtain⟨z,y,xs,r,o,es,ep,h1,h2,h3,h4,h5⟩:=(show ObjOk P w H h a (.dT kvs)from zJe ok e)
 refine⟨z,y,xs,r,o,es,ep,h1,h2,h3,h4,fun x hx=>?_,h5⟩
 have all:∀{l:List (List Key × V)}{m:List (List Key × Addr × Value)},KT H l m->∀x∈m,(tupleKind (zAg P w)).is h x.1 x.2.1:=by
  intro l m q
  induction q with
  | nil=>intro x hx;exact nomatch hx
  | @cons p q ps qs hq t ih=>
   intro x hx
   rcases xC.mp hx with e|hx
   ·subst e
    exact zLe ok (by rw[<- hq.1];exact hq.2.1)
   ·exact ih x hx
 exact all r x hx
end
noncomputable def DGet (H:Hp) (a:Addr) (y:V) (r:Option V):Prop:=
 (∃kvs k,Rd H a (.dK kvs)/\y=kV k/\r=valV kvs k)\/∃kvs k b,Rd H a (.dT kvs)/\y=.ref b/\H b=some (.tup (k.map kV))/\r=valV kvs k
section
variable {X:Cx}{pins:List (Addr × Obj)}{σ:St}{H:Hp}{s:Shared}{a:Addr}{y v:V}{u r:Value}{o:Option V}{A:Around}{E:Value->Shared->Prop}
theorem Inv.big (I:Inv X pins σ H s):sysModules<s.heap.objs.size:=by
 have h:mainGlobals<s.heap.objs.size:=(I.mod.glob.keeps I.bk).lt
 exact Nat.lt_trans (by decide) h
theorem zIk {Q:Value->Shared->Prop}(hu:A.units+1<cLine) (I:Inv X pins σ H s) (g:DGet H a y (some v)) (ry:RelV y u) (h:∀w' s',Inv X pins σ H s'->RelV v w'->Q w' s'):
  wpAny (model X.prog X.w) A (getItem (.ref a) u) Q E s:=by
 rcases g with⟨kvs,k,e,ey,l⟩|⟨kvs,k,b,e,ey,eb,l⟩
 ·subst ey
  obtain⟨z,hd,vs,rel,dd⟩:=zKt I.hok e
  obtain⟨w',hw,rw'⟩:=RelO.some_of (v:=v) (o:=valueAt vs k) (by rw[l];exact rel.val k)
  exact wpAny_getItem_of (zKb ry) dd.mapOf hw (h w' _ (I.tok _) rw')
 ·subst ey
  cases(show u=Value.ref b from ry)
  obtain⟨z,hd,xs,rel,dd⟩:=zO9 I.hok e
  obtain⟨w',hw,rw'⟩:=RelO.some_of (v:=v) (o:=(atKey xs k).map (·.2)) (by rw[l];exact rel.val k)
  obtain⟨p,hp,hp2⟩:=vy.mp hw
  refine wpAny_getItem_heap (tupleKind_room_in1 hu) (zLe I.hok eb) dd hp ?_
  rw[hp2]
  exact h w' _ (I.tok _) rw'
theorem zIj {h':Heap}{t':Nat}{ob:HO}(I:Inv X pins σ H s) (mu:Mut (H a)) (hs:Heap.SameBut a s.heap h') (he:∃q,h'.get? a=some q) (new:ObjOk X.prog X.w (upd H a ob) h' a ob):
  Inv X pins σ (upd H a ob) { s with heap:=h',toks:=t' }:=
 I.write (x:=a) (e:=a) mu (.inl rfl) (fun b q hb z=>(hs.2 b hb).trans z) he new
theorem zLl {P:Program}{w:World}{H':Hp}{h':Heap}{kvs:List (Key × V)}{vs:List (Key × Value)}(z:kvs.length<=sizeLine) (hd:(a == sysModules)=false) (rel:KV kvs vs) (dd:h'.DictOf (zAg P w) a vs):
  ObjOk P w H' h' a (.dK kvs):=⟨z,hd,vs,rel,dd⟩
end
section
variable {X:Cx}{pins:List (Addr × Obj)}{σ:St}{H:Hp}{s:Shared}{a:Addr}{kvs:List (Key × V)}{k:Key}{u:Value}{A:Around}{E:Value->Shared->Prop}
theorem zSo {Q:Value->Shared->Prop}(I:Inv X pins σ H s) (e:Rd H a (.dK kvs)) (h:∀t s',Inv X pins σ H s'->Q (.int kvs.length t) s'):wpAny (model X.prog X.w) A (call (.builtin "len") [.ref a]) Q E s:=by
 obtain⟨z,hd,vs,rel,dd⟩:=zKt I.hok e
 refine call_len_dict hd dd (by rw[<- rel.length];rw[sizeLine_eq]at z;lia) ?_
 rw[<- rel.length]
 exact h _ _ (I.tok _)
end
theorem zEq {X:Cx}{pins:List (Addr × Obj)}{σ:St}{H:Hp}{s:Shared}{a:Addr}{y:V}{o:Option V}(I:Inv X pins σ H s) (g:DGet H a y o):s.TypeIs (.ref a) "dict":=by
 rcases g with⟨kvs,k,e,_,_⟩|⟨kvs,k,b,e,_,_,_⟩
 ·obtain⟨_,_,vs,_,dd⟩:=zKt I.hok e
  exact dd.typeIs
 ·obtain⟨_,_,xs,_,dd⟩:=zO9 I.hok e
  exact dd.typeIs
theorem zKu {P:Program}{w:World}{H:Hp}(h:Heap) (hb:sysModules<h.objs.size):ObjOk P w H (h.push { cls:=.type "dict",data:=.dict #[] }) h.objs.size (.dK []):=
 ⟨xW _,beq_eq_false_iff_ne.mpr (xk (xo hb)),[],.nil,Heap.DictOf.new h⟩
noncomputable def zF3:List (TE × TE)->St->Hp->(List (V × V)->Hp->Prop)->Prop
 | [],_,H,Q=>Q [] H
 | (tk,tv)::r,σ,H,Q=>tk σ H fun x H1=>tv σ H1 fun y H2=>zF3 r σ H2 fun ps H3=>Q ((x,y)::ps) H3
noncomputable abbrev VV:List (V × V)->List (Value × Value)->Prop:=Paired fun p q=>RelV p.1 q.1/\RelV p.2 q.2
noncomputable def PPs (X:Cx) (pos:Pos) (keys:List (Option Expr)) (values:List Expr) (trs:List (TE × TE)):Prop:=
 ∀(pins:List (Addr × Obj)) (s:Shared) (σ:St) (H:Hp) (Q:List (V × V)->Hp->Prop),Inv X pins σ H s->zF3 trs σ H Q->
  wpAny (model X.prog X.w) X.A (evalPairs (pairTrees keys values X.env pos)) (fun vs s'=>∃ps H',Inv X pins σ H' s'/\VV ps vs/\Q ps H') X.xe s
theorem zMl {X:Cx}{pos:Pos}:PPs X pos [] [] []:=fun pins s σ H Q I h=>pairTrees_nil_walk ⟨[],H,I,.nil,h⟩
theorem zJn {X:Cx}{pos:Pos}{k v:Expr}{ks:List (Option Expr)}{vs:List Expr}{tk tv:TE}{trs:List (TE × TE)}(hk:PE X k tk) (hv:PE X v tv) (hr:PPs X pos ks vs trs):
  PPs X pos (some k::ks) (v::vs) ((tk,tv)::trs):=fun pins s σ H Q I h=>
 pairTrees_cons_walk (thn (hk pins s σ H _ I h) fun u s1 ⟨x,H1,I1,rx,q1⟩=>thn (hv pins s1 σ H1 _ I1 q1) fun w2 s2 ⟨y,H2,I2,ry,q2⟩=>
  thn (hr pins s2 σ H2 _ I2 q2) fun ws s3 hz6=>by obtain⟨ps,H3,I3,rel,q3⟩:=hz6;exact ⟨(x,y)::ps,H3,I3,.cons ⟨rx,ry⟩ rel,q3⟩)
noncomputable def zBu (kvs more:List (Key × V)):List (Key × V):=more.foldl (fun acc kv=>putK acc kv.1 kv.2) kvs
theorem KV.merge:∀{more:List (Key × V)}{rs:List (Key × Value)}{kvs:List (Key × V)}{vs:List (Key × Value)},KV more rs->KV kvs vs->KV (zBu kvs more) (merged vs rs):=by
 intro more rs kvs vs r
 unfold KV at r
 induction r generalizing kvs vs with
 | nil=>intro q;exact q
 | @cons p q ps qs h t ih=>
  intro r0
  have e:KV (putK kvs p.1 p.2) (stored vs q.1 q.2):=by
   have:=r0.put p.1 h.2
   rw[<- h.1];exact this
  exact ih e
theorem zBi:∀(more kvs:List (Key × V)),(zBu kvs more).length<=kvs.length+more.length
 | [],kvs=>by show kvs.length<=kvs.length+0;lia
 | p::r,kvs=>by
  have h1:=zBi r (putK kvs p.1 p.2)
  have h2:=zCa kvs p.1 p.2
  show(zBu (putK kvs p.1 p.2) r).length<=_
  rw[xH];lia
theorem zD0 {P:Program}{w:World}:∀{kvs:List (Key × V)}{ws:List (Value × Value)},VV (kvs.map fun kv=>(kV kv.1,kv.2)) ws->∃rs,Carries (zAg P w) ws rs/\KV kvs rs
 | [],_,r=>by rw[x4]at r;cases r;exact⟨[],True.intro,.nil⟩
 | p::kvs,_,r=>by
  rw[xt]at r
  cases r with
  | @cons a b as bs h t=>
   obtain⟨rs,c,q⟩:=zD0 (P:=P) (w:=w) t
   obtain⟨b1,b2⟩:=b
   exact⟨(p.1,b2)::rs,⟨zKb h.1,rfl,c⟩,.cons ⟨rfl,h.2⟩ q⟩
noncomputable def zP2 (trs:List (TE × TE)):TE:=fun σ H Q=>∀p,H p=none->zF3 trs σ (upd H p (.dK [])) fun ps H2=>H2 p=some (.dK [])/\∃kvs:List (Key × V),ps=kvs.map (fun kv=>(kV kv.1,kv.2))/\kvs.length<=15/\Q (.ref p) (upd H2 p (.dK (zBu [] kvs)))
theorem zMw {X:Cx}{pos:Pos}{keys:List (Option Expr)}{values:List Expr}{trs:List (TE × TE)}(h:PPs X pos keys values trs) (hall:keys.all (·.isSome)=true) (hl:keys.length=values.length) (h0:keys≠[])
  (h15:keys.length<=15):PE X (.Dict keys values pos) (zP2 trs):=by
 intro pins s σ H Q I q
 have hn:=I.hok.fresh (xh s.heap.objs.size)
 have I1:=I.laid (a:=s.heap.objs.size) (o:=.dK []) (h':=s.heap.push { cls:=.type "dict",data:=.dict #[] }) (t':=s.toks) (fun _ _ q=>xl _ q) (xh _) (zKu s.heap I.big)
 refine wpAny_Dict_walk (knd:=zAg X.prog X.w) hall hl h0 h15 (thn (h pins _ σ _ _ I1 (q _ hn)) fun ws s2 hq1=>?_)
 obtain⟨ps,H2,I2,rel,e,kvs,ep,lk,q2⟩:=hq1
 subst ep
 obtain⟨rs,c,rk⟩:=zD0 (P:=X.prog) (w:=X.w) rel
 obtain⟨z,hd,vs0,r0,dd⟩:=zQx I2.hok e
 cases r0
 refine⟨rs,c,dd,fun h' dd' hs=>⟨.ref s.heap.objs.size,_,?_,rfl,q2⟩⟩
 have hz:(zBu [] kvs).length<=sizeLine:=by
  have h1:=zBi kvs []
  rw[vx]at h1
  rw[sizeLine_eq];lia
 have he:∃q,h'.get? s.heap.objs.size=some q:=let ⟨q,_,_,hq,_⟩:=dd';⟨q,hq⟩
 exact zIj I2 (by rw[e];exact True.intro) hs he (zLl hz hd (rk.merge .nil) dd')
end L2
namespace HT
open PySem PyProof.Rows
section
open PySem.SeqAt
open PySem.AutoSeq1 (wpAny_loadPart')
open PySem.MeetsSeq PySem.MeetsSeq2 PySem.MeetsSeq3
end
section
variable {prog:Program}{w:World}{A:Around}{E:Value->Shared->Prop}{s:Shared}
theorem cat_tup {t b:Addr}{vs ws:List Value}{Q:Value->Shared->Prop}(ht:IsTup s.heap t vs.toArray) (hb:IsTup s.heap b ws.toArray) (hv:vs≠[])
  (h1:ws=[]->Q (.ref t) s) (h2:ws≠[]->Q (.ref s.heap.objs.size) { s with heap:=s.heap.push { cls:=.type "tuple",data:=.seq (vs++ws).toArray } })
  (hsz:vs.length+ws.length<=sizeLine):wpAny (model prog w) A (binaryOp .Add (.ref t) (.ref b)) Q E s:=by
 obtain⟨⟨cls,dd,data,sl⟩,ho,hc,n,hd⟩:=id ht
 obtain⟨⟨cls2,dd2,data2,sl2⟩,ho2,hc2,n2,hd2⟩:=id hb
 simp only at hc hd hc2 hd2
 subst hc hd hc2 hd2
 have e:vs.toArray++ws.toArray=(vs++ws).toArray:=by simp
 by_cases hw:ws=[]
 ·exact concat_meets ⟨_,ho,rfl⟩ ⟨_,ho2,rfl⟩ noFill_tuple_add seq_tuple_add PySem.F.slot_tuple_add PySem.F.entry_tuple_add (PySem.F.args_tuple_add_2 _ _)
   (tuple_addW1 t b vs.toArray ws.toArray n n2 dd dd2 sl sl2 (by simpa using hv) (by simp[hw])) ⟨ho,ho2,h1 hw⟩
 ·refine concat_meets ⟨_,ho,rfl⟩ ⟨_,ho2,rfl⟩ noFill_tuple_add seq_tuple_add PySem.F.slot_tuple_add PySem.F.entry_tuple_add (PySem.F.args_tuple_add_2 _ _)
   (tuple_addW2 t b vs.toArray ws.toArray n n2 dd dd2 sl sl2 (by simpa using hv) (by simpa using hw) (by rw[xm,xm];exact hsz)) ⟨ho,ho2,?_⟩
  rw[e]
  exact h2 hw
noncomputable def sIx (n d:Nat):Option Int->Nat
 | none=>d
 | some v=>if v<0 then(v+(n:Int)).toNat else min v.toNat n
theorem zP5 (n d:Nat) (hd:d<=n) (o:Option Int):sIx n d o<=n:=by
 cases o with
 | none=>exact hd
 | some v=>
  show(if v<0 then(v+(n:Int)).toNat else min v.toNat n)<=n
  by_cases hv:v<0
  ·rw[xb hv];lia
  ·rw[xc hv];exact Nat.min_le_right _ _
theorem zIp (v:Int) (n d:Nat):(if v<0 then max (v+(n:Int)) 0 else min v (n:Int))=((sIx n d (some v):Nat):Int):=by
 show(if v<0 then max (v+(n:Int)) 0 else min v (n:Int))=(((if v<0 then(v+(n:Int)).toNat else min v.toNat n):Nat):Int)
 by_cases hv:v<0
 ·simp only[xb hv];lia
 ·simp only[xc hv];lia
theorem zGr (lo hi:Option Int) (n:Nat):Builtin.Slice.sliceAdjust lo hi 1 (n:Int)=(((sIx n 0 lo:Nat):Int),((sIx n n hi:Nat):Int)):=by
 have h1:¬ ((1:Int)<0):=by nofun
 unfold Builtin.Slice.sliceAdjust
 simp only[h1,if_false]
 refine Prod.ext ?_ ?_
 ·cases lo with
  | none=>rfl
  | some v=>exact zIp v n 0
 ·cases hi with
  | none=>rfl
  | some v=>exact zIp v n n
theorem zFz (i j:Nat):Builtin.Slice.slicePlaces (i:Int) (j:Int) 1=j-i:=by
 unfold Builtin.Slice.slicePlaces
 have h1:(1:Int) > 0:=by nofun
 simp only[h1,xj,Int.ediv_one]
 split <;> lia
theorem zCp {v:Value}{o:Option Int}{Q:Option Int->Shared->Prop}(p:IsPart v o) (h:Q o s):wpAny (model prog w) A (Builtin.Slice.slicePartIndex v) Q E s:=by
 cases p with
 | none=>exact slicePart_none h
 | int i t=>exact slicePart_int h
theorem sliceApplied_gen {sl:Addr}{vl vu:Value}{lo hi:Option Int}{n:Nat}{Q:Int × Int × Nat->Shared->Prop}(hs:s.heap.IsSliceOf sl vl vu .none) (pl:IsPart vl lo) (pu:IsPart vu hi)
  (h:Q (((sIx n 0 lo:Nat):Int),1,sIx n n hi-sIx n 0 lo) s):wpAny (model prog w) A (Builtin.Slice.sliceApplied (.ref sl) (pure (n:Int))) Q E s:=by
 obtain⟨os,hos,hcs,hds⟩:=id hs
 unfold Builtin.Slice.sliceApplied Builtin.Slice.sliceFields
 refine xa (xa (x8 hos hds (x:=vl) rfl (xa (x8 hos hds (x:=vu) rfl (xa (x8 hos hds (x:=.none) rfl (xf ?_)))))))
 refine xa (slicePart_none ?_)
 show wpAny _ _ (if((1:Int) == 0)=true then _ else _) _ _ s
 rw[xc (by decide)]
 refine xa (zCp pl (xa (zCp pu (xa (xf ?_)))))
 show wpAny _ _ (match Builtin.Slice.sliceAdjust lo hi 1 (n:Int)with|(lo,hi)=>pure (lo,(1:Int),Builtin.Slice.slicePlaces lo hi 1)) _ _ s
 rw[zGr lo hi n]
 show wpAny _ _ (pure (((sIx n 0 lo:Nat):Int),(1:Int),Builtin.Slice.slicePlaces ((sIx n 0 lo:Nat):Int) ((sIx n n hi:Nat):Int) 1)) _ _ s
 rw[zFz]
 exact xf h
theorem zJs (xs:Array Value) (i k:Nat):((List.range k).filterMap fun(m:Nat)=>xs[((i:Int)+(m:Int)*1).toNat]?).toArray=((xs.toList.drop i).take k).toArray:=by
 have e:(fun(m:Nat)=>xs[((i:Int)+(m:Int)*1).toNat]?)=fun m=>xs[i+m]?:=by
  funext m
  have:((i:Int)+(m:Int)*1).toNat=i+m:=by nofun
  rw[this]
 rw[e]
 have:=pick_run xs i k
 rw[List.filterMap_map]at this
 have e2:((fun x=>xs[x]?) ∘ fun x=>i+x)=fun m=>xs[i+m]?:=rfl
 rw[e2]at this
 rw[this]
theorem getItem_tuple_cut {t sl:Addr}{items:Array Value}{vl vu:Value}{lo hi:Option Int}{Q:Value->Shared->Prop}(ht:IsTup s.heap t items) (hs:s.heap.IsSliceOf sl vl vu .none) (pl:IsPart vl lo) (pu:IsPart vu hi)
  (hw:¬ (sIx items.size 0 lo=0/\sIx items.size items.size hi=items.size))
  (h:Q (.ref s.heap.objs.size) { s with heap:=s.heap.push { cls:=.type "tuple",data:=.seq ((items.toList.drop (sIx items.size 0 lo)).take (sIx items.size items.size hi-sIx items.size 0 lo)).toArray } })
  (hsz:items.size<=sizeLine):wpAny (model prog w) A (getItem (.ref t) (.ref sl)) Q E s:=by
 have htake:sizeOk (.seq ((items.toList.drop (sIx items.size 0 lo)).take (sIx items.size items.size hi-sIx items.size 0 lo)).toArray):=by
  show((items.toList.drop (sIx items.size 0 lo)).take (sIx items.size items.size hi-sIx items.size 0 lo)).toArray.size<=sizeLine
  rw[xm,x6,List.length_drop,vN]
  lia
 have hj:sIx items.size items.size hi<=items.size:=zP5 _ _ (xh _) hi
 obtain⟨os,hos,hcs,hds⟩:=id hs
 have hTs:s.TypeIs (.ref sl) "slice":=⟨os,hos,hcs⟩
 unfold getItem
 try with_reducible refine xx ?_
 first|refine xa (xf ?_)|skip
 refine xa (wpAny_sequenceKey ht.typeIs (by decide) ?_)
 refine xa (wpAny_callSpecial?_slot (name:=Str.ofString "__getitem__") ht.typeIs vj
  (wpAny_call_entry vj ht.typeIs entry_tuple_getitem ?_ (args_tuple_getitem _ _)))
 show wpAny _ _ (Builtin.Tuple.tupleItemsOf (.ref t) >>= _) _ _ s
 refine xa (tupleItemsOf_ ht ?_)
 refine xa (wpAny_typeOf hTs ?_)
 rw[xb (by decide)]
 refine xa (sliceApplied_gen hs pl pu ?_)
 have hno:¬ ((((sIx items.size 0 lo:Nat):Int) == 0 && (1:Int) == 1 && (sIx items.size items.size hi-sIx items.size 0 lo) == items.size)=true):=by
  intro q
  rw[xg,xg]at q
  have q1:((sIx items.size 0 lo:Nat):Int)=0:=eq_of_beq q.1.1
  have q2:sIx items.size items.size hi-sIx items.size 0 lo=items.size:=eq_of_beq q.2
  exact hw ⟨by nofun,by nofun⟩
 show wpAny _ _ (if(((sIx items.size 0 lo:Nat):Int) == 0 && (1:Int) == 1 && (sIx items.size items.size hi-sIx items.size 0 lo) == items.size)=true then _ else _) _ _ s
 rw[xc hno,zJs]
 first
  | exact xa (m:=Builtin.Tuple.tupleExact _) (vg (xf ⟨_,rfl,xf h⟩) htake)
  | exact xa (m:=Builtin.Tuple.tupleExact _) (vg (xa (xf (xf ⟨_,rfl,xf h⟩))) htake)
  | exact xa (xa (m:=Builtin.Tuple.tupleExact _) (vg (xf (xf ⟨_,rfl,xf h⟩)) htake))
  | exact xa (xa (m:=Builtin.Tuple.tupleExact _) (vg (xf ⟨_,rfl,xf h⟩) htake))
end
end HT
namespace L2
open PySem PySem.Spec PyProof.Rows
noncomputable abbrev TO:=St->Hp->(Option Int->Hp->Prop)->Prop
noncomputable def PO (X:Cx) (e:Option Expr) (t:TO):Prop:=
 ∀(pins:List (Addr × Obj)) (s:Shared) (σ:St) (H:Hp) (Q:Option Int->Hp->Prop),Inv X pins σ H s->t σ H Q->
  wpAny (model X.prog X.w) X.A (evalPart e X.env) (fun u s'=>∃o H',Inv X pins σ H' s'/\IsPart u o/\Q o H') X.xe s
noncomputable def zGv:TO:=fun _ H Q=>Q none H
noncomputable def zP0 (t:TE):TO:=fun σ H Q=>t σ H fun x H1=>∃i,x=.int i/\Q (some i) H1
section
variable {X:Cx}{e:Expr}{te:TE}{lo hi:Option Expr}{tl th:TO}{pos p2:Pos}
theorem zMn:PO X none zGv:=by
 intro pins s σ H Q I h
 rw[evalPart_none]
 exact xf ⟨none,H,I,.none,h⟩
theorem zMm (h:PE X e te):PO X (some e) (zP0 te):=by
 intro pins s σ H Q I hw
 rw[evalPart_some]
 refine thn (h pins s σ H _ I hw) fun u s1 hq1=>?_
 obtain⟨x,H1,I1,r1,q1⟩:=hq1
 obtain⟨i,rfl,q⟩:=q1
 obtain⟨t,rfl⟩:=r1
 exact⟨some i,H1,I1,.int i t,q⟩
noncomputable def SlR (X:Cx) (r:V->Option Int->Option Int->Hp->VK->Prop):Prop:=
 ∀(pins:List (Addr × Obj)) (s:Shared) (σ:St) (H:Hp) (x:V) (v vl vu:Value) (lo hi:Option Int) (sl:Addr) (Q:VK),Inv X pins σ H s->RelV x v->s.heap.IsSliceOf sl vl vu .none->IsPart vl lo->IsPart vu hi->r x lo hi H Q->
  ∃T id,typeLookup (.type T) "__getitem__"=pure (some (.builtin id))/\s.TypeIs v T/\wpAny (model X.prog X.w) X.A (getItem v (.ref sl)) (EP X pins σ Q) X.xe s
noncomputable def tSl (r:V->Option Int->Option Int->Hp->VK->Prop) (te:TE) (tl th:TO):TE:=fun σ H Q=>te σ H fun x H1=>tl σ H1 fun l H2=>th σ H2 fun u H3=>r x l u H3 Q
theorem zJv {r:V->Option Int->Option Int->Hp->VK->Prop}(hr:SlR X r) (he:PE X e te) (hl:PO X lo tl) (hu:PO X hi th):PE X (.Subscript e (.Slice lo hi none p2) pos) (tSl r te tl th):=by
 intro pins s σ H Q I h
 refine Subscript_ (thn (he pins s σ H _ I h) fun v s1 hq1=>?_)
 obtain⟨x,H1,I1,r1,q1⟩:=hq1
 refine wpAny_Slice (thn (hl pins s1 σ H1 _ I1 q1) fun vl s2 ⟨l,H2,I2,pl,q2⟩=>thn (hu pins s2 σ H2 _ I2 q2) fun vu s3 hq1=>?_)
 obtain⟨u,H3,I3,pu,q3⟩:=hq1
 rw[evalPart_none]
 refine xf ?_
 have I4:Inv X pins σ H3 { s3 with heap:=s3.heap.push { cls:=.type "slice",data:=.fields #[vl,vu,.none] } }:=I3.kept (t':=s3.toks) fun b ob q=>xl _ q
 obtain⟨T,id,hT,ht,hg⟩:=hr pins { s3 with heap:=s3.heap.push { cls:=.type "slice",data:=.fields #[vl,vu,.none] } } σ H3 x v vl vu l u s3.heap.objs.size Q I4 r1 (Heap.IsSliceOf.new ..) pl pu q3
 show wpAny (model X.prog X.w) X.A (subscriptTail e (.Slice lo hi none p2) v (.ref s3.heap.objs.size)) (EP X pins σ Q) X.xe { s3 with heap:=s3.heap.push { cls:=.type "slice",data:=.fields #[vl,vu,.none] } }
 exact tail_any (ops:=[.ref s3.heap.objs.size,v]) ht hT hg (by with_unfolding_all rfl)
noncomputable def cutV (xs:List V) (lo hi:Option Int):List V:=(xs.drop (HT.sIx xs.length 0 lo)).take (HT.sIx xs.length xs.length hi-HT.sIx xs.length 0 lo)
theorem zCf (xs:List V) (lo hi:Option Int):(cutV xs lo hi).length<=xs.length:=by
 unfold cutV
 rw[x6,List.length_drop]
 lia
noncomputable def rSlT (K:PySem.W.Frag):V->Option Int->Option Int->Hp->VK->Prop:=fun x lo hi H Q=>∃a xs,x=.ref a/\SqT K H a xs /\
 ¬ (HT.sIx xs.length 0 lo=0/\HT.sIx xs.length xs.length hi=xs.length)/\∀p,H p=none->Q (.ref p) (upd H p (.tup (cutV xs lo hi)))
theorem zL4:SlR X (rSlT X.K):=by
 intro pins s σ H x v vl vu lo hi sl Q I rx hs pl pu h
 obtain⟨a,xs,rfl,hx,hw,q⟩:=h
 cases rx
 obtain⟨its,r,ht,hz⟩:=I.tuple hx
 have hlen:its.toArray.size=xs.length:=by rw[xm];exact r.length.symm
 refine⟨"tuple",_,vj.lookup,ht.typeIs,?_⟩
 refine HT.getItem_tuple_cut ht hs pl pu (by rw[hlen];exact hw) ?_ (by rw[hlen];exact hz)
 rw[hlen]
 refine⟨.ref s.heap.objs.size,_,I.laid (t':=s.toks) (o:=.tup (cutV xs lo hi)) (fun b ob q=>xl _ q) (xh _) ?_,rfl,q _ (I.hok.fresh (xh _))⟩
 exact⟨xq (zCf xs lo hi) hz,_,(r.drop (HT.sIx xs.length 0 lo)).take (HT.sIx xs.length xs.length hi-HT.sIx xs.length 0 lo),IsTup.new _ _⟩
noncomputable def zRs (K:PySem.W.Frag):R2:=fun x y H Q=>∃a b xs ys,x=.ref a/\y=.ref b/\SqT K H a xs/\SqT K H b ys/\xs≠[]/\xs.length+ys.length<=sizeLine /\
 (ys=[]->Q (.ref a) H)/\(ys≠[]->∀p,H p=none->Q (.ref p) (upd H p (.tup (xs++ys))))
theorem Vals.nil_iff {xs:List V}{us:List Value}(r:Vals xs us):us=[] <-> xs=[]:=by
 cases r with
 | nil=>simp
 | cons _ _=>simp
theorem zNa:OpR X (binaryOp .Add) (zRs X.K):=by
 intro pins s σ H x y v u Q I rx ry h
 obtain⟨a,b,xs,ys,rfl,rfl,ha,hb,hx,hz,q1,q2⟩:=h
 cases rx
 cases ry
 obtain⟨its,r1,p1,_⟩:=I.tuple ha
 obtain⟨its2,r2,p2,_⟩:=I.tuple hb
 refine HT.cat_tup p1 p2 (fun z=>hx (r1.nil_iff.mp z)) (fun z=>⟨.ref a,H,I,rfl,q1 (r2.nil_iff.mp z)⟩) (fun z=>?_) (by rw[<- r1.length,<- r2.length];exact hz)
 refine⟨.ref s.heap.objs.size,_,I.laid (t':=s.toks) (o:=.tup (xs++ys)) (fun b ob q=>xl _ q) (xh _) ?_,rfl,q2 (fun w=>z (r2.nil_iff.mpr w)) _ (I.hok.fresh (xh _))⟩
 exact⟨by rw[xZ];exact hz,_,r1.append r2,IsTup.new _ _⟩
end
end L2
namespace L2
open PySem PySem.Spec PyProof.Rows
noncomputable def ixN (n:Nat) (i:Int):Option Nat:=if 0<=i then(if i<n then some i.toNat else none)else if -(n:Int)<=i then some (i+n).toNat else none
noncomputable def atI {α:Type}(xs:List α) (i:Int):Option α:=(ixN xs.length i).bind fun j=>xs[j]?
theorem zNo {n:Nat}{i:Int}{j:Nat}(h:ixN n i=some j):seqIndex? i n=some j/\j<n/\-(n:Int)<=i/\i<n:=by
 unfold ixN at h
 by_cases h0:0<=i
 ·rw[xb h0]at h
  by_cases h1:i<n
  ·rw[xb h1]at h
   have e:i.toNat=j:=xY h
   exact⟨by rw[seqIndex_of h0 h1,e],by nofun,by nofun,h1⟩
  ·rw[xc h1]at h;cases h
 ·rw[xc h0]at h
  by_cases h1:-(n:Int)<=i
  ·rw[xb h1]at h
   have e:(i+n).toNat=j:=xY h
   exact⟨by rw[seqIndex_neg (by nofun) h1,e],by nofun,h1,by nofun⟩
  ·rw[xc h1]at h;cases h
theorem zEx {α:Type}{xs:List α}{i:Int}{v:α}(h:atI xs i=some v):∃j,seqIndex? i xs.length=some j/\xs[j]?=some v/\j<xs.length/\-(xs.length:Int)<=i/\i<xs.length:=by
 unfold atI at h
 cases e:ixN xs.length i with
 | none=>rw[e]at h;cases h
 | some j=>
  rw[e]at h
  obtain⟨h1,h2,h3,h4⟩:=zNo e
  exact⟨j,h1,h,h2,h3,h4⟩
noncomputable def zJ2 (b:Expr):Prop:=∀o i,subscripted b false o i=operate [o,i] (getItem o i)
noncomputable def IxR (X:Cx) (r:R2):Prop:=
 ∀(value slice:Expr) (pins:List (Addr × Obj)) (s:Shared) (σ:St) (H:Hp) (x y:V) (v u:Value) (Q:VK),Inv X pins σ H s->RelV x v->RelV y u->r x y H Q->
  subscripted slice false v u=operate [v,u] (getItem v u)->wpAny (model X.prog X.w) X.A (subscriptTail value slice v u) (EP X pins σ Q) X.xe s
noncomputable def MtR (X:Cx) (id:String) (r:V->List V->Hp->VK->Prop):Prop:=
 ∀(pins:List (Addr × Obj)) (s:Shared) (σ:St) (H:Hp) (x:V) (xs:List V) (v:Value) (us:List Value) (Q:VK),Inv X pins σ H s->RelV x v->Vals xs us->r x xs H Q->
  wpAny (model X.prog X.w) X.A (call (.builtin id) (v::us)) (EP X pins σ Q) X.xe s
section
variable {X:Cx}{a b:Expr}{ta tb:TE}{pos:Pos}
theorem zRy {r:R2}(hr:IxR X r) (ha:PE X a ta) (hb:PE X b tb) (hs:zJ2 b):PE X (.Subscript a b pos) (tOp r ta tb):=by
 intro pins s σ H Q I h
 exact Subscript_ (binT ha hb I h fun v u s2 x y H2 I2 rx ry q=>hr a b pins s2 σ H2 x y v u Q I2 rx ry q (hs _ _))
noncomputable def rIxL (K:PySem.W.Frag):R2:=fun x y H Q=>∃p xs i v,x=.ref p/\y=.int i/\SqL K H p xs/\atI xs i=some v/\Q v H
noncomputable def rIxT (K:PySem.W.Frag):R2:=fun x y H Q=>∃p xs i v,x=.ref p/\y=.int i/\SqT K H p xs/\atI xs i=some v/\Q v H
noncomputable def rIxS:R2:=fun x y H Q=>∃z i c,x=.str z/\y=.int i/\z.length<=sizeLine/\atI z.cps.toList i=some c/\Q (.str ⟨#[c]⟩) H
theorem zNn:IxR X (rIxL X.K):=by
 intro value slice pins s σ H x y v u Q I rx ry h hs
 obtain⟨p,xs,i,z,rfl,rfl,hq,he,q⟩:=h
 cases rx
 obtain⟨t,rfl⟩:=ry
 obtain⟨its,r,pl,hz⟩:=I.list hq
 obtain⟨j,h1,h2,h3,h4,h5⟩:=zEx he
 obtain⟨w,ew,rw'⟩:=r.get h2
 have hl:=r.length
 have hn:=line63
 have fin:EP X pins σ Q w s:=⟨z,H,I,rw',q⟩
 by_cases h0:0<=i
 ·have hj:i.toNat=j:=by
   rw[seqIndex_of h0 h5]at h1
   exact xY h1
  exact item_listR pl.isList h0 (by nofun) (by rw[hj];simpa using ew) fin hs
 ·have hj:(i+(its.toArray.size:Int)).toNat=j:=by
   rw[seqIndex_neg (by nofun) h4]at h1
   rw[xm,<- hl]
   exact xY h1
  exact subscriptTail_builtinR (x:=w) pl.isList.typeIs slot_list_getitem.lookup
   (wpAny_getItem_list_neg (Q:=fun r s'=>r=w/\EP X pins σ Q r s') pl.isList (by nofun) (by rw[xm] <;> lia) (by nofun) (by rw[hj];simpa using ew) ⟨rfl,fin⟩) hs
theorem zQd:IxR X (rIxT X.K):=by
 intro value slice pins s σ H x y v u Q I rx ry h hs
 obtain⟨p,xs,i,z,rfl,rfl,hq,he,q⟩:=h
 cases rx
 obtain⟨t,rfl⟩:=ry
 obtain⟨its,r,pl,hz⟩:=I.tuple hq
 obtain⟨j,h1,h2,h3,h4,h5⟩:=zEx he
 obtain⟨w,ew,rw'⟩:=r.get h2
 have hl:=r.length
 have hn:=line63
 have fin:EP X pins σ Q w s:=⟨z,H,I,rw',q⟩
 exact subscriptTail_builtinR (x:=w) pl.typeIs slot_tuple_getitem.lookup
  (getItem_tuple (j:=j) (Q:=fun r s'=>r=w/\EP X pins σ Q r s') pl (by nofun) (by nofun) (by rw[xm,<- hl];exact h1) (by simpa using ew) ⟨rfl,fin⟩) hs
theorem zQe:IxR X rIxS:=by
 intro value slice pins s σ H x y v u Q I rx ry h hs
 obtain⟨z,i,c,rfl,rfl,hz,he,q⟩:=h
 obtain⟨t,rfl⟩:=rx
 obtain⟨t',rfl⟩:=ry
 obtain⟨j,h1,h2,h3,h4,h5⟩:=zEx he
 have hl:z.cps.toList.length=z.length:=by simp[Str.length]
 rw[hl]at h1 h4 h5
 have hn:=line63
 exact tail_any (typeIs_str s z t) slot_str_getitem.lookup (getItem_str (c:=c) (by
  have e1:decide (i < -(2 ^ 63:Int))=false:=xB (by nofun)
  have e2:decide (i >= 2 ^ 63)=false:=xB (by nofun)
  rw[e1,e2,Bool.or_false]) (by rw[h1];simpa using h2) ⟨.str ⟨#[c]⟩,H,I.tok _,⟨_,rfl⟩,q⟩) hs
theorem zDo (lo hi:Option Int) (n:Nat):(sliceBounds lo hi none n).1=((HT.sIx n 0 lo:Nat):Int)/\(sliceBounds lo hi none n).2.1=((HT.sIx n n hi:Nat):Int)/\(sliceBounds lo hi none n).2.2=1:=by
 refine⟨?_,?_,rfl⟩
 ·cases lo with
  | none=>simp[sliceBounds,HT.sIx]
  | some i=>
   simp only[sliceBounds,HT.sIx,Option.getD_none,show(1:Int) > 0 by decide,xj]
   by_cases h:i<0
   ·simp only[h,xj] <;> lia
   ·simp only[h,if_false] <;> lia
 ·cases hi with
  | none=>simp[sliceBounds,HT.sIx]
  | some i=>
   simp only[sliceBounds,HT.sIx,Option.getD_none,show(1:Int) > 0 by decide,xj]
   by_cases h:i<0
   ·simp only[h,xj] <;> lia
   ·simp only[h,if_false] <;> lia
theorem zD7 (its:List Value) (lo hi:Option Int):slicePick its.toArray lo hi none=((its.drop (HT.sIx its.length 0 lo)).take (HT.sIx its.length its.length hi-HT.sIx its.length 0 lo)).toArray:=by
 obtain⟨h1,h2,h3⟩:=zDo lo hi its.toArray.size
 unfold slicePick
 rw[h1,h2,h3]
 simp only[sliceRange_one,pick_run,xm] <;> rfl
noncomputable def rSlL (K:PySem.W.Frag):V->Option Int->Option Int->Hp->VK->Prop:=fun x lo hi H Q=>∃a xs,x=.ref a/\SqL K H a xs/\∀p,H p=none->Q (.ref p) (upd H p (.lst (cutV xs lo hi)))
theorem zM2:SlR X (rSlL X.K):=by
 intro pins s σ H x v vl vu lo hi sl Q I rx hs pl pu h
 obtain⟨a,xs,rfl,hx,q⟩:=h
 cases rx
 obtain⟨its,r,ht,hz⟩:=I.list hx
 have hlen:=r.length
 refine⟨"list",_,slot_list_getitem.lookup,ht.isList.typeIs,?_⟩
 refine wpAny_getItem_list_slice ht.isList hs pl pu .none (by simp) ?_ (by rw[xm] <;> lia)
 rw[zD7,<- hlen]
 refine⟨.ref s.heap.objs.size,_,I.laid (t':=s.toks) (o:=.lst (cutV xs lo hi)) (fun b ob q=>xl _ q) (xh _) ?_,rfl,q _ (I.hok.fresh (xh _))⟩
 exact⟨xq (zCf xs lo hi) hz,_,0,(r.drop (HT.sIx xs.length 0 lo)).take (HT.sIx xs.length xs.length hi-HT.sIx xs.length 0 lo),xv _ rfl⟩
theorem zE4:zBl X (.builtin "len") (fun xs H Q=>∃p ys,xs=[.ref p]/\(SqL X.K H p ys\/SqT X.K H p ys)/\Q (.int ys.length) H):=by
 intro pins s σ H xs us Q I r h
 obtain⟨p,ys,rfl,hq,q⟩:=h
 obtain⟨u,rfl,rx⟩:=vals1 r
 cases rx
 have hn:=line63
 rcases hq with hq|hq
 ·obtain⟨its,r',pl,hz⟩:=I.list hq
  have hlen:=r'.length
  exact Calls.call_len_list pl.isList (by simp only[xm] <;> lia) ⟨.int ys.length,H,I.tok _,⟨s.toks+1,by rw[xm,hlen]⟩,q⟩
 ·obtain⟨its,r',pl,hz⟩:=I.tuple hq
  have hlen:=r'.length
  exact len_tuple pl (by simp only[xm] <;> lia) ⟨.int ys.length,H,I.tok _,⟨s.toks+1,by rw[xm,hlen]⟩,q⟩
theorem zE3:zBl X (.builtin "len") (fun xs H Q=>∃z,xs=[.str z]/\z.length<=sizeLine/\Q (.int z.length) H):=by
 intro pins s σ H xs us Q I r h
 obtain⟨z,rfl,hz,q⟩:=h
 obtain⟨u,rfl,t,rfl⟩:=vals1 r
 have hn:=line63
 exact len_str (by nofun) ⟨.int z.length,H,I.tok _,⟨_,rfl⟩,q⟩
noncomputable def tyV (K:PySem.W.Frag) (T:String) (x:V) (H:Hp):Prop:=match x with
 | .str _=>T="str"
 | .int _=>T="int"
 | .ref p=>(T="list"/\∃xs,SqL K H p xs)\/(T="tuple"/\∃o,K.lookup p=some o/\o.cls=.type "tuple"/\o.dict=none) \/
   (T="dict"/\((∃kvs,Rd H p (.dK kvs))\/∃kvs,Rd H p (.dT kvs)))\/(T="set"/\∃S n,H p=some (.set S n))
 | _=>False
theorem zL1 {pins:List (Addr × Obj)}{σ:St}{H:Hp}{s:Shared}{T:String}{x:V}{v:Value}(I:Inv X pins σ H s) (r:RelV x v) (ty:tyV X.K T x H):
  s.TypeIs v T/\∀a,v=.ref a->∃ob,s.heap.get? a=some ob/\ob.dict=none:=by
 cases x with
 | str z=>
  obtain⟨t,rfl⟩:=r
  cases(show T="str" from ty)
  exact⟨typeIs_str s z t,fun _ e=>nomatch e⟩
 | int i=>
  obtain⟨t,rfl⟩:=r
  cases(show T="int" from ty)
  exact⟨typeIs_int s i t,fun _ e=>nomatch e⟩
 | ref p=>
  cases r
  rcases ty with⟨rfl,xs,hq⟩|⟨rfl,o,hk,hc,hd⟩|⟨rfl,hk⟩|⟨rfl,S,n,hk⟩
  ·obtain⟨its,_,pl,_⟩:=I.list hq
   refine⟨pl.isList.typeIs,fun a e=>?_⟩
   cases e
   obtain⟨o,n,e,c,hd,_⟩:=pl
   exact⟨o,e,hd⟩
  ·refine⟨⟨o,I.kIn p o hk,hc⟩,fun a e=>?_⟩
   cases e
   exact⟨o,I.kIn _ o hk,hd⟩
  ·have z:∃o,s.heap.get? p=some o/\o.ExactDict:=by
    rcases hk with⟨kvs,hk⟩|⟨kvs,hk⟩
    ·obtain⟨_,_,_,_,o,_,_,e,ex,_⟩:=(show ObjOk X.prog X.w H s.heap p (.dK kvs)from zJe I.hok hk)
     exact⟨o,e,ex⟩
    ·obtain⟨_,_,_,_,o,_,_,e,ex,_⟩:=(show ObjOk X.prog X.w H s.heap p (.dT kvs)from zJe I.hok hk)
     exact⟨o,e,ex⟩
   obtain⟨o,e,ex⟩:=z
   refine⟨⟨o,e,ex.1⟩,fun a e2=>?_⟩
   cases e2
   exact⟨o,e,ex.2.1⟩
  ·obtain⟨o,_,_,_,e,ex,_⟩:=I.hok p _ hk
   refine⟨⟨o,e,ex.1⟩,fun a e2=>?_⟩
   cases e2
   exact⟨o,e,ex.2.1⟩
 | _=>exact False.elim ty
noncomputable def tBM0 (K:PySem.W.Frag) (T:String) (r:V->List V->Hp->VK->Prop) (to:TE):TE:=fun σ H Q=>to σ H fun x H1=>tyV K T x H1/\r x [] H1 Q
noncomputable def tBM (K:PySem.W.Frag) (T:String) (r:V->List V->Hp->VK->Prop) (to:TE) (t:TA):TE:=fun σ H Q=>to σ H fun x H1=>tyV K T x H1/\t σ H1 fun xs H2=>r x xs H2 Q
variable {o e:Expr}{es:List Expr}{to:TE}{t:TA}{name:Str}{apos cpos:Pos}{T id:String}{r:V->List V->Hp->VK->Prop}
theorem zPu (pa:PlainAttrs T) (slot:Slot T name id) (hty:typeOf (.builtin id)=pure (.type "method_descriptor")) (hm:MtR X id r) (ho:PE X o to)
  (hbase:attributeBase o name X.env (eval o X.env)=eval o X.env:=by rfl) (hline:(apos.endLine == cpos.line)=true:=by rfl):PE X (.Call (.Attribute o name apos) [] [] cpos) (tBM0 X.K T r to):=by
 intro pins s σ H Q I h
 refine wpAny_Call_method0_late hbase hline (thn (ho pins s σ H _ I h) fun v s1 hq1=>?_)
 obtain⟨x,H1,I1,r1,ty,q1⟩:=hq1
 obtain⟨h1,h2⟩:=zL1 I1 r1 ty
 exact⟨T,id,pa,slot,hty,h1,h2,Calls.callWith_builtin rfl (PySem.evalArgs_none (hm pins s1 σ H1 x [] v [] Q I1 r1 .nil q1))⟩
theorem zRz (pa:PlainAttrs T) (slot:Slot T name id) (hty:typeOf (.builtin id)=pure (.type "method_descriptor")) (hm:MtR X id r) (ho:PE X o to) (ha:PA X (e::es) t)
  (hbase:attributeBase o name X.env (eval o X.env)=eval o X.env:=by rfl)
  (hfew:((backTo cpos (starEach (e::es) X.env)).all (fun x=>!x.1) && (backToKw cpos (keywordEach [] X.env)).all (fun x=>x.1.isSome)
   && decide ((e::es).length+([]:List Keyword).length+(if([]:List Keyword).isEmpty then 0 else 1)<30))=true:=by rfl)
  (hline:(apos.endLine == cpos.line)=true:=by rfl) (hs:starEach (e::es) X.env=(false,eval e X.env)::starEach es X.env:=by rfl) (hplain:(backTo cpos (starEach es X.env)).any (·.1)=false:=by rfl):
  PE X (.Call (.Attribute o name apos) (e::es) [] cpos) (tBM X.K T r to t):=by
 intro pins s σ H Q I h
 refine wpAny_Call_method_late hbase hfew hline rfl (thn (ho pins s σ H _ I h) fun v s1 hq1=>?_)
 obtain⟨x,H1,I1,r1,ty,q1⟩:=hq1
 obtain⟨h1,h2⟩:=zL1 I1 r1 ty
 refine⟨T,id,pa,slot,hty,h1,h2,?_⟩
 have hA:=ha cpos pins s1 σ H1 _ I1 q1
 rw[hs]at hA ⊢
 refine Calls.callWith_builtin (by show(false || (backTo cpos (starEach es X.env)).any (·.1))=false;rw[hplain] <;> rfl) (Calls.evalArgs_plain ?_)
 exact thn hA fun us s2 hz7=>by obtain⟨vs,H2,I2,r2,q2⟩:=hz7;exact hm pins s2 σ H2 x vs v us Q I2 r1 r2 q2
end
end L2
namespace L2
open PySem PySem.Spec PyProof.Rows
noncomputable def MtM (X:Cx) (id:String) (r:V->List V->Hp->VK->Prop):Prop:=
 ∀(pins:List (Addr × Obj)) (s:Shared) (σ:St) (H:Hp) (x:V) (xs:List V) (v:Value) (us:List Value) (Q:VK),Inv X pins σ H s->RelV x v->Vals xs us->r x xs H Q->
  wpAny (model X.prog X.w) X.A (call (.builtin id) (v::us)) (EP X pins σ Q) X.xe s
theorem Vals.one:∀{x:V}{us:List Value},Vals [x] us->∃u,us=[u]/\RelV x u
 | _,_,.cons r .nil=>⟨_,rfl,r⟩
theorem Vals.zero:∀{us:List Value},Vals [] us->us=[]
 | _,.nil=>rfl
theorem Vals.dropLast {xs:List V}{us:List Value}(h:Vals xs us):Vals xs.dropLast us.dropLast:=by
 induction h with
 | nil=>exact .nil
 | cons r t ih=>
  cases t with
  | nil=>exact .nil
  | cons q t'=>exact .cons r ih
theorem Vals.reverse {xs:List V}{us:List Value}(h:Vals xs us):Vals xs.reverse us.reverse:=by
 induction h with
 | nil=>exact .nil
 | cons r t ih=>rw[List.reverse_cons,List.reverse_cons];exact Vals.append ih (.cons r .nil)
theorem zGa {α:Type}(l:List α):l.eraseIdx (l.length-1)=l.dropLast:=by
 induction l with
 | nil=>rfl
 | cons a r ih=>
  cases r with
  | nil=>rfl
  | cons b r=>
   have e:(a::b::r).length-1=((b::r).length-1)+1:=by
    have h1:(a::b::r).length=r.length+2:=rfl
    have h2:(b::r).length=r.length+1:=rfl
    lia
   rw[e,List.eraseIdx_cons_succ,ih]
   all_goals rfl
section
variable {X:Cx}{pins:List (Addr × Obj)}{σ:St}{H:Hp}{s:Shared}{l b:Addr}{xs ys zs:List V}
theorem Inv.lset {its its':List Value}{n:Nat}{f:Array Value->Array Value}{t':Nat}(I:Inv X pins σ H s) (hH:H l=some (.lst xs))
  (e:s.heap.get? l=some { cls:=.type "list",data:=.seq its.toArray n }) (hf:f its.toArray=its'.toArray) (hv:Vals ys its') (hz:ys.length<=sizeLine):
  Inv X pins σ (upd H l (.lst ys)) { s with heap:=s.heap.update l (Obj.mapSeq f),toks:=t' }:=by
 have q:=PySem.IsL.update e f
 rw[hf]at q
 refine I.write (x:=l) (e:=l) (by rw[hH];exact trivial) (.inl rfl) (fun b' u hb hu=>(xQ s.heap (Obj.mapSeq f) (xk hb)).trans hu) ⟨_,q⟩ ?_
 exact⟨hz,its',_,hv,q⟩
theorem Inv.lnew {its:List Value}{t':Nat}(I:Inv X pins σ H s) (hv:Vals ys its) (hz:ys.length<=sizeLine):
  Inv X pins σ (upd H s.heap.objs.size (.lst ys)) { s with heap:=s.heap.push { cls:=.type "list",data:=.seq its.toArray },toks:=t' }:=
 I.laid (fun _ _ q=>xl _ q) (xh _) ⟨hz,its,0,hv,xv _ rfl⟩
theorem Inv.fresh (I:Inv X pins σ H s):H s.heap.objs.size=none:=I.hok.fresh (xh _)
theorem Inv.lstM (I:Inv X pins σ H s) (hH:H l=some (.lst xs)):xs.length<=sizeLine/\∃(its:List Value) (n:Nat),Vals xs its/\xs.length=its.length/\s.heap.get? l=some { cls:=.type "list",data:=.seq its.toArray n }:=by
 obtain⟨z,its,n,r,e⟩:=I.hok l _ hH
 exact⟨z,its,n,r,r.length,e⟩
end
section
variable {X:Cx}
noncomputable def zM9:V->List V->Hp->VK->Prop:=fun x vs H Q=>∃l xs y,x=.ref l/\vs=[y]/\H l=some (.lst xs)/\xs.length<sizeLine/\Q .non (upd H l (.lst (xs++[y])))
theorem zHm:MtM X "list.append" zM9:=by
 intro pins s σ H x vs v us Q I rx rv h
 obtain⟨l,xs,y,rfl,rfl,hH,hz,q⟩:=h
 cases rx
 obtain⟨u,rfl,ru⟩:=rv.one
 obtain⟨z,its,n,r,hl,e⟩:=I.lstM hH
 refine call_meets F.slot_list_append ⟨_,e,rfl⟩ F.entry_list_append (F.args_list_append_2 _ _) (PySem.list_append l its.toArray n u (by rw[xm];lia)) ⟨e,?_⟩
 refine⟨.non,_,I.lset (its':=its++[u]) hH e (by simp) (r.append (.cons ru .nil)) ?_,rfl,q⟩
 rw[xZ,List.length_singleton]
 lia
noncomputable def rPop:V->List V->Hp->VK->Prop:=fun x vs H Q=>∃l xs y,x=.ref l/\vs=[]/\H l=some (.lst xs)/\xs[xs.length-1]?=some y/\Q y (upd H l (.lst xs.dropLast))
theorem zQ5:MtM X "list.pop" rPop:=by
 intro pins s σ H x vs v us Q I rx rv h
 obtain⟨l,xs,y,rfl,rfl,hH,hy,q⟩:=h
 cases rx
 have hus:=rv.zero
 subst hus
 obtain⟨z,its,n,r,hl,e⟩:=I.lstM hH
 obtain⟨u,hu,ru⟩:=r.get hy
 have hy':its.toArray[its.toArray.size-1]?=some u:=by
  show its.toArray[its.length-1]?=some u
  rw[<- Array.getElem?_toList,<- hl]
  exact hu
 refine call_meets F.slot_list_pop ⟨_,e,rfl⟩ F.entry_list_pop (F.args_list_pop_1 _) (MeetsSeq.list_pop_last l its.toArray n u hy' (by rw[xm];lia)) ⟨e,?_⟩
 refine⟨y,_,I.lset (its':=its.dropLast) hH e ?_ r.dropLast ?_,ru,q⟩
 ·show its.toArray.eraseIdxIfInBounds (its.toArray.size-1)=its.dropLast.toArray
  rw[xm,List.eraseIdxIfInBounds_toArray,zGa]
 ·rw[List.length_dropLast]
  lia
theorem len_rep {α:Type}(xs:List α) (k:Nat):(List.replicate k xs).flatten.length=k*xs.length:=by
 induction k with
 | zero=>simp
 | succ k ih=>rw[vH,List.flatten_cons,xZ,ih,Nat.succ_mul,Nat.add_comm]
end
end L2
namespace Att
open PySem PySem.W PySem.Calls PyProof.Rows
theorem zCe {P:Params}{h:Heap}:∀(ns:List Int) (vs:List Value),WellAll P h vs (ns.map WData.int)->IntsAre vs ns:=by
 intro ns
 induction ns with
 | nil=>
  intro vs w
  rw[x4]at w
  cases w
  exact .nil
 | cons n ns ih=>
  intro vs w
  rw[xt]at w
  cases w with
  | cons a b=>
   cases a
   exact .cons _ _ (ih _ b)
theorem zH1 {l:OpenLaw}{n:Nat}(hn:l.most=some n) {P:Params}{h:Heap}{args:List WData}{vals:List Value}
  (hpre:l.row.toRowW.claim.pre args=true) (hwl:WellAll P h vals args):
  ∃a vs ns,vals=[Value.ref a]/\args=[WData.list (ns.map WData.int)]/\h.get? a=some { cls:=.type "list",data:=.seq vs.toArray }/\IntsAre vs ns/\ns.length<=n:=by
 have hsh:WShape.hasAll [] args [.list .int]=true:=(pre_splitW hpre).1
 have hc:l.pre.holds [] { args:=args }=true:=(pre_splitW hpre).2
 obtain⟨d,r,rfl,h1,h2⟩:=hasAllW_cons hsh
 obtain rfl:=hasAllW_nil h2
 obtain⟨xs,rfl,h3⟩:=hasW_list h1
 obtain⟨ns,rfl⟩:=items_int h3
 have hlen:ns.length<=n:=by
  unfold OpenLaw.pre at hc
  have h4:(WTm.not (.lt (.lit (.int (n:Int))) (.len (.arg 0)))).holds [] { args:=[.list (ns.map .int)] }=true:=by
   have h4:=(holds_andW hc).1
   rw[hn]at h4
   exact h4
  have h5:=condW_of h4 (w_not (w_lt w_lit (w_len_list (w_arg rfl))))
  rw[xE]at h5
  refine Nat.le_of_not_lt fun q=>?_
  have q':(n:Int)<((ns.length:Nat):Int):=by nofun
  first
   | (rw[xD q']at h5;exact absurd h5 (by decide))
   | (simp at h5;lia)
 cases hwl with
 | cons w1 w2=>
  cases w2
  cases w1 with
  | list ho hall=>exact⟨_,_,ns,rfl,rfl,ho,zCe ns _ hall,hlen⟩
theorem zHc (l:OpenLaw) (args:List WData):l.row.toRowW.claim.post args (.bool true) args=true:=
 postW_of (r:=l.row.toRowW) (X:=(true == true))
  (show WShape.has [] (.bool true) .bool=true by first|rfl|decide|simp[WShape.has,WShape.arms,WShape.armsAll])
  (show(WTm.eq .res (.lit (.bool true))).value [] { args:=args,res:=some (.bool true),after:=args }=some (.bool (true == true))from w_eq_bool (w_res rfl) w_lit) rfl
theorem attach_call {l:OpenLaw}{n:Nat}{q:Program}{loose:List Str}{XP:(Str->Option Value)->Heap->Prop}{YP:World->Heap->Prop}{d:DefRec}
  (hn:l.most=some n) (hdf:d.params.defaults=[])
  (call:∀(w:World) (s₀ s₁:Shared) (mg mb:Str->Option Value) (fa:Addr) (o:Obj) (pm cd doc:Value) (a:Addr) (vs:List Value) (ns:List Int),
   Ground q loose [] XP w s₀ mg mb s₁.heap->YP w s₁.heap->
   s₁.heap.get? fa=some o->o.data=.func (docDef d.name d.params d.body d.scope pm cd doc)->s₁.heap.CodeRec cd d.name->mg d.name=some (.ref fa)->
   s₁.heap.get? a=some { cls:=.type "list",data:=.seq vs.toArray }->IntsAre vs ns->ns.length<=n->s₁.gens=#[]->
   codeAny (model l.prog w) callerA (.call (.ref fa) ⟨[.ref a],[]⟩) (fun r s'=>r=.ok (.ret (.bool true))/\OldK s₁.heap s'.heap/\s'.os=s₁.os/\AllBare s'.gens) s₁):
  WalkO q loose XP YP l.row.toRowW d [] (fun f vs=>PySem.call f vs):=by
 intro w s₀ s₁ mg mb G Y fa o pm cd doc dV kV ho hd hcd hD hmg hg args vals as hpre hlay hrd hwl hlo
 obtain rfl:dV=.none:=Dflts.none hD hdf
 obtain rfl:kV=.none:=Dflts.noKw hD
 obtain⟨a,vs,ns,rfl,rfl,hobj,hints,hlen⟩:=zH1 hn hpre hwl
 refine enter_call (codeAny_mono (call w s₀ s₁ mg mb fa o pm cd doc a vs ns G Y ho (fd_plain hd) hcd hmg hobj hints hlen hg) fun r s' hq=>?_)
 obtain⟨rfl,h2,h3,h4⟩:=hq
 exact⟨.inl ⟨.bool true,.bool true,[],rfl,fun _=>rfl,.bool true,zHc l _,fun _=>⟨List.Pairwise.nil,fun _ hm=>(nomatch hm)⟩⟩,h2,h3,h4⟩
end Att
namespace L2
open PySem PySem.Spec PyProof.Rows
theorem zDl:∀{vs:List Value}{ns:List Int},IntsAre vs ns->Vals (ns.map V.int) vs
 | _,_,.nil=>.nil
 | _,_,.cons n t h=>.cons ⟨t,rfl⟩ (zDl h)
noncomputable def Only (H:Hp):Prop:=∀b,H b=none\/∃o xs,H b=some (.frz o (.lst xs))
theorem law_call {P:Program}{w:World}{K:PySem.W.Frag}{mg mb:Str->Option Value}{CX:CXT}{k:Nat}{fa a:Addr}{fd:FuncData}{x:Str}{sp:Sp}{s₁:Shared}{vs:List Value}{ns:List Int}
  (KX:K.In s₁.heap) (hns:s₁.heap.Ns mainGlobals mg) (hb:s₁.heap.Ns builtinsNs mb) (hbb:∀x:Str,x≠"__name__"->mb x=bootBuiltins x) (hlim:s₁.heap.NoLimit) (hg:s₁.gens=#[])
  (ha:s₁.heap.get? a=some { cls:=.type "list",data:=.seq vs.toArray }) (hi:IntsAre vs ns) (hl:ns.length<=sizeLine) (hr:Room k callerA)
  (F:∀base:Heap,K.In base->base.Ns mainGlobals mg->FnOk P w K mg base CX k fa fd [x] sp) (hbind:∀(s:Shared) (u:Value),BindsTo s fd ⟨[u],[]⟩ [(x,u)])
  (hsp:∀H:Hp,Only H->SqL K H a (ns.map V.int)->sp [.ref a] H (fun v _=>v=.bl true) fun _ _ _=>False)
  (hCX:∀H e s',CX [] H s₁ (fun _ _ _=>False) e s'->False):
  codeAny (model P w) callerA (.call (.ref fa) ⟨[.ref a],[]⟩) (fun r s'=>r=.ok (.ret (.bool true))/\OldK s₁.heap s'.heap/\s'.os=s₁.os/\AllBare s'.gens) s₁:=by
 have rv:=zDl hi
 have lenV:=hi.length
 -- from an abstract heap in which nothing but the script may be tracked
 have core:∀H:Hp,Only H->SqL K H a (ns.map V.int)->HOk P w H s₁.heap->(∀b,H b≠none->b=a)->(H a≠none->K.lookup a=none)->
   codeAny (model P w) callerA (.call (.ref fa) ⟨[.ref a],[]⟩) (fun r s'=>r=.ok (.ret (.bool true))/\OldK s₁.heap s'.heap/\s'.os=s₁.os/\AllBare s'.gens) s₁:=by
  intro H hO hS hok hA hK
  have zCi:∀{b:Addr}{o:Obj},s₁.heap.get? b=some o->H b=none->(hidT s₁.heap H).get? b=some o:=fun e n=>zKi e n
  have noA:∀{b:Addr}{o:Obj}{es:Array DictEntry}{ep:Nat},s₁.heap.get? b=some o->o.data=.dict es ep->H b=none:=fun {b o es ep} e d=>by
   cases q:H b with
   | none=>rfl
   | some u=>
    have e':b=a:=hA b (by rw[q];simp)
    subst e'
    rw[ha]at e;cases e
    have d':Data.seq vs.toArray _=Data.dict es ep:=d
    cases d'
  have nsK:∀{b:Addr}{m:Str->Option Value},s₁.heap.Ns b m->(hidT s₁.heap H).Ns b m:=fun {b m} ⟨o,es,ep,e,d,r⟩=>⟨o,es,ep,zCi e (noA e d),d,r⟩
  have hKb:K.In (hidT s₁.heap H):=fun b o e=>zCi (KX b o e) (by
   cases q:H b with
   | none=>rfl
   | some u=>
    have e':b=a:=hA b (by rw[q];simp)
    subst e'
    rw[hK (by rw[q];simp)]at e;cases e)
  have hM:Mod K mg (hidT s₁.heap H):=⟨hKb,nsK hns,⟨mb,nsK hb,hbb⟩,let ⟨mc,h1,h2⟩:=hlim;⟨mc,nsK h1,h2⟩⟩
  have e0:Env0 P w K mg (hidT s₁.heap H) callerA [] s₁ H:=⟨rfl,hM,fun b o e=>zNc e,Nat.le_of_eq (zHx _ _),trivial,fun b hb=>absurd (show b∈([]:List Addr)from hb) (by simp),hok,.of_eq hg,rfl⟩
  refine codeAny_mono ((F _ hKb (nsK hns)).run callerA [] s₁ H ⟨[.ref a],[]⟩ [.ref a] [.ref a] _ _ hr e0 (hbind s₁ (.ref a)) (.cons rfl .nil) (hsp H hO hS)) fun r s' h=>?_
  cases r with
  | error e=>exact(hCX H e s' h).elim
  | ok fl=>
   cases fl with
   | next=>exact False.elim h
   | brk=>exact False.elim h
   | cont=>exact False.elim h
   | ret u=>
    obtain⟨v,H',os,bare,un,hok',r',q⟩:=h
    have q':v=.bl true:=q
    subst q'
    obtain rfl:u=Value.bool true:=r'
    refine⟨rfl,OldK.of_keep fun b o e=>?_,os,bare⟩
    cases q:H b with
    | none=>exact un.keep b o e q (by intro z;exact absurd (show b∈([]:List Addr)from z) (by simp)) (by simp)
    | some u=>
     rcases hO b with z|⟨ob,xs,z⟩
     ·rw[q]at z;cases z
     ·have z2:=un.frzs b ob _ z
      obtain⟨e1,_⟩:=hok b _ z
      obtain⟨e2,_⟩:=hok' b _ z2
      rw[e]at e1;cases e1
      exact e2
 cases hk:K.lookup a with
 | some o=>
  -- the script is one of the module's own objects
  have e:=KX a o hk
  rw[ha]at e
  cases e
  refine core (fun _=>none) (fun _=>.inl rfl) (.inr ⟨_,vs.toArray,_,hk,rfl,rfl,rfl,by rw[xm,lenV];exact hl,by simpa using rv⟩) (fun b u z=>by have z':(none:Option HO)=some u:=z;cases z') (fun b z=>absurd rfl z) fun z=>absurd rfl z
 | none=>
  refine core (fun b=>if b=a then some (.frz { cls:=.type "list",data:=.seq vs.toArray } (.lst (ns.map V.int)))else none) (fun b=>?_) (.inl (.inr ⟨{ cls:=.type "list",data:=.seq vs.toArray },xb rfl⟩)) (fun b u z=>?_) (fun b z=>?_) fun _=>hk
  ·by_cases hb:b=a
   ·exact .inr ⟨_,_,xb hb⟩
   ·exact .inl (xc hb)
  ·by_cases hb:b=a
   ·have z':=(xb hb).symm.trans z
    cases z'
    subst hb
    exact⟨ha,by rw[xE];exact hl,vs,_,rv,ha⟩
   ·have z':=(xc hb).symm.trans z
    cases z'
  ·by_cases hb:b=a
   ·exact hb
   ·exact absurd (xc hb) z
end L2
namespace L2
open PySem PySem.Spec PyProof.Rows
theorem zLu {l:PySem.W.OpenLaw}{n k:Nat}{q:Program}{loose:List Str}{XP:(Str->Option Value)->Heap->Prop}{YP:World->Heap->Prop}{d:DefRec}{K:Params->PySem.W.Frag}{CX:World->CXT}{sp:World->Sp}{x:Str}
  (hn:l.most=some n) (hn2:n<=sizeLine) (hdf:d.params.defaults=[]) (hr:Room k callerA)
  (hY:∀(w:World) (h:Heap),YP w h->(K w.params).In h)
  (F:∀(w:World) (mg:Str->Option Value) (fa:Addr) (h:Heap),(K w.params).In h->h.Ns mainGlobals mg->mg d.name=some (.ref fa)->
   ∃fd:FuncData,(∀(s:Shared) (u:Value),BindsTo s fd ⟨[u],[]⟩ [(x,u)]) /\
    ∀base:Heap,(K w.params).In base->base.Ns mainGlobals mg->FnOk l.prog w (K w.params) mg base (CX w) k fa fd [x] (sp w))
  (hsp:∀(w:World) (H:Hp) (a:Addr) (ns:List Int),ns.length<=n->Only H->SqL (K w.params) H a (ns.map V.int)->sp w [.ref a] H (fun v _=>v=.bl true) fun _ _ _=>False)
  (hCX:∀(w:World) (H:Hp) (s:Shared) (e:Value) (s':Shared),CX w [] H s (fun _ _ _=>False) e s'->False):
  PySem.W.WalkO q loose XP YP l.row.toRowW d [] (fun f vs=>PySem.call f vs):=by
 refine Att.attach_call hn hdf fun w s₀ s₁ mg mb fa o pm cd doc a vs ns G Y ho hd hcd hmg hobj hints hlen hg=>?_
 have KX:=hY w _ Y
 obtain⟨fd,hb,hF⟩:=F w mg fa _ KX G.T.g hmg
 exact law_call KX G.T.g G.T.b G.T.builtins G.T.nolimit hg hobj hints (xq hlen hn2) hr hF hb (fun H hO hS=>hsp w H a ns hlen hO hS) fun H e s'=>hCX w H s₁ e s'
end L2
namespace L2
open PySem PySem.Spec PyProof.Rows
noncomputable def zAo (s:Stmt):Arguments:=match s with
 | .FunctionDef _ a _ _ _ _ _ _ _ _=>a
 | _=>{ posonlyargs:=[],args:=[],vararg:=none,kwonlyargs:=[],kw_defaults:=[],kwarg:=none,defaults:=[] }
noncomputable def zAc (s:Stmt):List Stmt:=match s with
 | .FunctionDef _ _ b _ _ _ _ _ _ _=>b
 | _=>[]
noncomputable def zA4 (s:Stmt):Scope:=match s with
 | .FunctionDef _ _ _ _ _ _ sc _ _ _=>sc
 | _=>{ kind:=.function,names:=[],isGenerator:=false,isCoroutine:=false }
noncomputable abbrev CX0:CXT:=fun _ _ _ _ _ _=>False
noncomputable abbrev E0:XK:=fun _ _ _=>False
theorem pass0 {X:Cx}:Passes CX0 X E0:=fun _ _ _ _ _ _ _ h=>h.elim
structure Fun (K:PySem.W.Frag) (x qual:Str) (st:Stmt) (f:Addr) (fd:FuncData):Prop where
 ex:∃(oc:Value) (od:Option Addr) (kV doc pm:Value) (an:Option Addr) (cdv ct:Value) (osl:Array (Option Value)),
  fd=PySem.W.fnOf x qual (zAo st) (zAc st) (zA4 st) .none kV doc pm an cdv ct/\K.lookup f=some ⟨oc,od,.func fd,osl⟩/\PySem.W.codeIn K cdv qual=true
 kp:PySem.W.keepIn K (.ref f)=true
section
variable {P:Program}{w:World}{K:PySem.W.Frag}{mg:Str->Option Value}{base:Heap}
theorem Fun.ok {x qual:Str}{st:Stmt}{f:Addr}{fd:FuncData}{N ps:List Str}{k:Nat}{sp:Sp}(F:Fun K x qual st f fd) (S:zBe N ps (zA4 st)) (len:∀vs H Q E,sp vs H Q E->vs.length=ps.length)
  (hbody:∀(cdv:Value) (A:Around) (outer:List Env) (s:Shared) (H:Hp) (vs:List V) (Q:VK) (E:XK),Room k (A.deeper (envOfC qual (zA4 st) s.heap.objs.size f cdv))->sp vs H Q E->
   ∃t,PSs (cxOf CX0 P w K mg base N qual (zA4 st) f cdv A outer s H E).nox (zAc st) t/\t { nx:=fun _ H'=>Q .non H',rt:=Q } (start N vs) H):FnOk P w K mg base CX0 (k+1) f fd ps sp:=by
 obtain⟨oc,od,kV,doc,pm,an,cdv,ct,osl,rfl,lk,hcd⟩:=F.ex
 refine zSb lk hcd S len fun A outer s H vs Q E hr hsp=>?_
 obtain⟨t,h,q⟩:=hbody cdv A outer s H vs Q E hr hsp
 exact⟨t,h.nox,q⟩
theorem Fun.binds {x qual:Str}{st:Stmt}{f:Addr}{fd:FuncData}{ps:List Str}(F:Fun K x qual st f fd)
  (h:∀(kV doc pm:Value) (an:Option Addr) (cdv ct:Value) (us:List Value),us.length=ps.length->bindArgs (PySem.W.fnOf x qual (zAo st) (zAc st) (zA4 st) .none kV doc pm an cdv ct) ⟨us,[]⟩=pure (ps.zip us)):Binds K fd ps []:=by
 obtain⟨oc,od,kV,doc,pm,an,cdv,ct,osl,rfl,lk,hcd⟩:=F.ex
 exact .all (h kV doc pm an cdv ct)
theorem zLh {x qual:Str}{st:Stmt}{f:Addr}{oc:Value}{od an:Option Addr}{osl:Array (Option Value)}{kV doc pm cdv ct:Value}(l:K.lookup f=some ⟨oc,od,.func (PySem.W.fnOf x qual (zAo st) (zAc st) (zA4 st) .none kV doc pm an cdv ct),osl⟩)
  (c:PySem.W.codeIn K cdv qual=true) (k:PySem.W.keepIn K (.ref f)=true):Fun K x qual st f (PySem.W.fnOf x qual (zAo st) (zAc st) (zA4 st) .none kV doc pm an cdv ct):=⟨⟨oc,od,kV,doc,pm,an,cdv,ct,osl,rfl,l,c⟩,k⟩
end
theorem zSa {A:Around}{k:Nat}(hr:Room k A):A.units+1<cLine:=vz (Nat.add_le_add_left (by decide:1<=64) _) hr.units
section
variable {X:Cx}
theorem pv (i:Nat) {x:Str}{pos:Pos}(hN:X.N[i]?=some x:=by rfl) (hv:Vis X.env.scope x:=by first|exact Or.inl rfl|exact Or.inr (Or.inl rfl)|exact Or.inr (Or.inr rfl)) (hd:(x == ("__debug__":Str))=false:=by decide)
  (hcd:(x == ("__classdict__":Str))=false:=by decide):PE X (.Name x pos) (tVar i):=zPn hN hv hd hcd
end
end L2
namespace L2
open PySem PySem.Spec PyProof.Rows
section
variable {prog:Program}{w:World}{A:Around}{R:Result->Shared->Prop}{s:Shared}
theorem zE2 {elt target iter:Expr}{ifs:List Expr}{scope:Scope}{pos:Pos}{it acc:Value}{env:Env}(I:Nat->Shared->Prop)
  (turn:∀n s,I n s->wpAny (model prog w) A (pyNext it) (fun r s₁=>match r with
   | none=>R (.ok .next) s₁
   | some v=>wpAny (model prog w) A (letOwnedTupleGo target it v) (fun _ s₂=>wpAny (model prog w) A (assign target env v) (fun _ s₂=>
     wpAny (model prog w) A (forIn ifs true fun c r=>if r=true then do let ok <- isTrue c env (eval c env);pure (ForInStep.yield ok)else pure (ForInStep.yield r)) (fun ok s₃=>
      if ok=true then wpAny (model prog w) A (eval elt env) (fun x s₄=>
       wpAny (model prog w) A (call (.builtin "list.append") [acc,x]) (fun _ s₅=>∃m,m<n/\I m s₅) (fun _ _=>False) s₄) (fun _ _=>False) s₃
      else ∃m,m<n/\I m s₃) (fun _ _=>False) s₂) (fun _ _=>False) s₂) (fun _ _=>False) s₁) (fun _ _=>False) s)
  (n:Nat) (h:I n s):
  codeAny (model prog w) A (.compLoop (.ListComp elt [⟨target,iter,ifs,0⟩] scope pos) 0 it acc env) R s:=by
 refine codeAny_loop rfl I (fun n s hI=>?_) n h
 show wpAny _ A ((compTurn (.ListComp elt [⟨target,iter,ifs,0⟩] scope pos) 0 it acc env).onRaise (fun x=>do noteFrame x env;theTreesLotGoes x)) _ _ s
 refine wpAny_noted ?_
 rw[compTurn_list]
 refine xa (vf (xa (xw (turn n s hI) (fun r s₁ h₁=>?_) fun _ _ h'=>h'.elim)))
 cases r with
 | none=>exact xf h₁
 | some v=>
  refine xa (xw h₁ (fun _ s₁' h₁=>?_) fun _ _ h'=>h'.elim)
  refine xa (xw h₁ (fun _ s₂ h₂=>xa (xw h₂ (fun ok s₃ h₃=>?_) fun _ _ h'=>h'.elim)) fun _ _ h'=>h'.elim)
  cases ok with
  | false=>exact xf ⟨rfl,h₃⟩
  | true=>
   exact xa (xa (xw h₃ (fun x s₄ h₄=>xa (xw h₄ (fun _ s₅ h₅=>xf (xf ⟨rfl,h₅⟩)) fun _ _ h'=>h'.elim)) fun _ _ h'=>h'.elim))
end
theorem zGf {env:Env}:∀(names:List (Str × NameKind)) (cs:List (Str × Addr)),(∀y∈names,y.2=.free->∃c,env.cells.lookup y.1=some c)->∃cl:List (Str × Addr),
  (forIn names cs fun x r=>(match x,r with|(name,kind),cs=>if(kind == NameKind.free)=true then do let c <- cellOf env name;pure (ForInStep.yield ((name,c)::cs))else pure (ForInStep.yield cs)):Sem (List (Str × Addr)))=pure cl /\
  (∀x c,cl.lookup x=some c->cs.lookup x=some c\/env.cells.lookup x=some c)/\(∀x c,cs.lookup x=some c->∃c',cl.lookup x=some c')/\∀y∈names,y.2=.free->∃c,cl.lookup y.1=some c:=by
 intro names
 induction names with
 | nil=>intro cs _;exact⟨cs,rfl,fun _ _ h=>.inl h,fun x c h=>⟨c,h⟩,fun _ h=>nomatch h⟩
 | cons y r ih=>
  intro cs h
  obtain⟨n,k⟩:=y
  have hr:∀y∈r,y.2=.free->∃c,env.cells.lookup y.1=some c:=fun y hy=>h y (xS _ hy)
  by_cases hk:k=.free
  ·subst hk
   obtain⟨c,hc⟩:=h (n,.free) xP rfl
   obtain⟨cl,e,h1,h2,h3⟩:=ih ((n,c)::cs) hr
   refine⟨cl,?_,fun x d hx=>?_,fun x d hx=>?_,fun y hy hf=>?_⟩
   ·rw[List.forIn_cons]
    have hcell:cellOf env n=(pure c:Sem Addr):=by simp only[cellOf,hc]
    simp only[vA,xj,hcell]
    simpa using e
   ·rcases h1 x d hx with z|z
    ·rw[xy]at z
     by_cases hxn:(x == n)=true
     ·rw[hxn]at z;simp at z;subst z
      have:x=n:=by simpa using hxn
      subst this;exact .inr hc
     ·rw[vI]at hxn;rw[hxn]at z;exact .inl z
    ·exact .inr z
   ·by_cases hxn:(x == n)=true
    ·exact h2 x c (by rw[xy,hxn])
    ·rw[vI]at hxn
     exact h2 x d (by rw[xy,hxn];exact hx)
   ·rcases xC.mp hy with z|z
    ·subst z;exact h2 n c (by rw[xy];simp)
    ·exact h3 y z hf
  ·have hb:(k == NameKind.free)=false:=by simpa using hk
   obtain⟨cl,e,h1,h2,h3⟩:=ih cs hr
   refine⟨cl,?_,h1,h2,fun y hy hf=>?_⟩
   ·rw[List.forIn_cons]
    simp only[hb,vk,if_false]
    simpa using e
   ·rcases xC.mp hy with z|z
    ·subst z;exact absurd hf hk
    ·exact h3 y z hf
theorem zBk {scope:Scope}{env:Env}(h:∀y∈scope.names,y.2=.free->∃c,env.cells.lookup y.1=some c):∃cl:List (Str × Addr),closureFor scope env=pure cl /\
  (∀x c,cl.lookup x=some c->env.cells.lookup x=some c)/\∀y∈scope.names,y.2=.free->∃c,cl.lookup y.1=some c:=by
 obtain⟨cl,e,h1,_,h3⟩:=zGf scope.names [] h
 refine⟨cl,?_,fun x c hx=>(h1 x c hx).elim (fun z=>nomatch z) id,h3⟩
 simp only[closureFor]
 rw[e]
 rfl
theorem zBs {scope:Scope}{env:Env}{x:Str}(h:(relabel scope env).names.lookup x=some .cell\/(relabel scope env).names.lookup x=some .free):∃y∈scope.names,y.1=x/\(y.2=.free\/y.2=.cell):=by
 have key:∀(l:List (Str × NameKind)),((l.map fun(n,k)=>if(k == NameKind.free && env.scope.kind == .function && env.kindOf n == some .cell)then(n,NameKind.cell)else(n,k)).lookup x=some .cell \/
   (l.map fun(n,k)=>if(k == NameKind.free && env.scope.kind == .function && env.kindOf n == some .cell)then(n,NameKind.cell)else(n,k)).lookup x=some .free)->∃y∈l,y.1=x/\(y.2=.free\/y.2=.cell):=by
  intro l
  induction l with
  | nil=>intro h;rcases h with h|h <;> simp at h
  | cons y r ih=>
   intro h
   obtain⟨n,k⟩:=y
   by_cases hb:(k == NameKind.free && env.scope.kind == .function && env.kindOf n == some .cell)=true
   ·have kf:k=.free:=by simp at hb;exact hb.1.1
    by_cases hx:(x == n)=true
    ·have:x=n:=by simpa using hx
     exact⟨(n,k),xP,this.symm,.inl kf⟩
    ·rw[vI]at hx
     simp only[xt,hb,xj,xy,hx]at h
     obtain⟨y,hy,z⟩:=ih h
     exact⟨y,xS _ hy,z⟩
   ·rw[vI]at hb
    by_cases hx:(x == n)=true
    ·have e:x=n:=by simpa using hx
     simp only[xt,hb,xy,hx,vk,if_false]at h
     rcases h with h|h
     ·exact⟨(n,k),xP,e.symm,.inr (xY h)⟩
     ·exact⟨(n,k),xP,e.symm,.inl (xY h)⟩
    ·rw[vI]at hx
     simp only[xt,hb,xy,hx,vk,if_false]at h
     obtain⟨y,hy,z⟩:=ih h
     exact⟨y,xS _ hy,z⟩
 exact key scope.names h
noncomputable def zA6 (X:Cx) (N:List Str) (scope:Scope) (cl:List (Str × Addr)) (C:Addr) (s:Shared) (H:Hp) (fp:List Addr):Cx where
 prog:=X.prog
 w:=X.w
 K:=X.K
 mg:=X.mg
 base:=X.base
 A:=X.A
 N:=N
 s₀:=s
 H₀:=H
 env:=compEnvC scope cl C X.env
 outer:=X.stack
 stack:=X.stack
 ex:=fp
 fn:=fun x=>scope.names.lookup x == some .cell
 calm:=X.calm
 pn:=[]
 xe:=fun _ _=>False
structure CompScope (X:Cx) (own fre:List Str) (ix:List Nat) (scope:Scope):Prop where
 kind:scope.kind=.function
 cell:∀y∈scope.names,y.2=.cell->scope.names.lookup y.1=some .cell
 loc:∀y∈scope.names,y.2=.local->scope.names.lookup y.1=some .local
 fr:∀y∈scope.names,y.2=.free->X.env.kindOf y.1=some .cell\/X.env.kindOf y.1=some .free
 len:fre.length=ix.length
 at_:∀(j:Nat) (i:Nat) (x:Str),fre[j]?=some x->ix[j]?=some i->X.N[i]?=some x/\(X.env.kindOf x=some .cell\/X.env.kindOf x=some .free)
 vis:∀x∈fre,(relabel scope X.env).names.lookup x=some .cell\/(relabel scope X.env).names.lookup x=some .free
 fno:∀x∈fre,scope.names.lookup x≠some .cell
noncomputable def zJd (scope sc:Scope):Scope:=
 { scope with names:=scope.names.map fun(n,k)=>if(k == .free && sc.kind == .function && sc.names.lookup n == some .cell)then(n,.cell)else(n,k) }
noncomputable def zAk (o:Option NameKind):Bool:=o == some .cell || o == some .free
theorem zAs {o:Option NameKind}(h:zAk o=true):o=some .cell\/o=some .free:=by
 simpa[zAk]using h
noncomputable def zIn (sc:Scope) (N own fre:List Str) (ix:List Nat) (scope:Scope):Bool:=
 (scope.kind == .function) && (scope.names.all fun y=>y.2 != .cell || scope.names.lookup y.1 == some .cell) && (scope.names.all fun y=>y.2 != .local || scope.names.lookup y.1 == some .local) &&
 (scope.names.all fun y=>y.2 != .free || zAk (sc.names.lookup y.1)) && (fre.length == ix.length) && ((fre.zip ix).all fun p=>N[p.2]? == some p.1 && zAk (sc.names.lookup p.1)) &&
 (fre.all fun x=>zAk ((zJd scope sc).names.lookup x)) && fre.all fun x=>scope.names.lookup x != some .cell
theorem CompScope.mk' {X:Cx}{N own fre:List Str}{ix:List Nat}{scope sc:Scope}(hs:X.env.scope=sc) (hN:X.N=N) (h:zIn sc N own fre ix scope=true):CompScope X own fre ix scope:=by
 simp only[zIn,xg]at h
 obtain⟨⟨⟨⟨⟨⟨⟨h1,h2⟩,h3⟩,h4⟩,h5⟩,h6⟩,h7⟩,h8⟩:=h
 subst hs
 subst hN
 refine⟨by simpa using h1,fun y hy hl=>?_,fun y hy hl=>?_,fun y hy hl=>?_,by simpa using h5,fun j i x e1 e2=>?_,fun x hx=>?_,fun x hx=>?_⟩
 ·have:=xI.mp h2 y hy
  rw[hl]at this
  simpa using this
 ·have:=xI.mp h3 y hy
  rw[hl]at this
  simpa using this
 ·have:=xI.mp h4 y hy
  rw[hl]at this
  exact zAs (show zAk (X.env.scope.names.lookup y.1)=true by simpa using this)
 ·have hz:(x,i)∈fre.zip ix:=by
   refine List.mem_iff_getElem?.mpr ⟨j,?_⟩
   rw[List.getElem?_zip_eq_some]
   exact⟨e1,e2⟩
  have:=xI.mp h6 (x,i) hz
  simp only[xg]at this
  exact⟨by simpa using this.1,zAs this.2⟩
 ·exact zAs (xI.mp h7 x hx)
 ·have:=xI.mp h8 x hx
  simpa using this
section
variable {M:Model}{A:Around}{E:Value->Shared->Prop}{s:Shared}
theorem zIq {lo:Nat}:∀(names:List (Str × NameKind)) (n:Nat) (acc:List (Str × Addr)) (x:Str) (c:Addr),lo<=n->((x,NameKind.cell)∈names\/∀c,acc.lookup x=some c->lo<=c)->(cellsFrom n names acc).lookup x=some c->lo<=c
 | [],_,_,_,_,_,h,e=>h.elim (fun z=>nomatch z) fun z=>z _ e
 | (m,k)::r,n,acc,x,c,hn,h,e=>by
  unfold cellsFrom at e
  split at e
  ·refine zIq r (n+1) _ x c (by nofun) ?_ e
   by_cases hx:x=m
   ·refine .inr fun c' q=>?_
    rw[xy,show(x == m)=true by rw[hx];exact vA m]at q
    cases q;exact hn
   ·have hb:(x == m)=false:=by simpa using hx
    rcases h with h|h
    ·rcases xC.mp h with z|z
     ·exact absurd (congrArg Prod.fst z) hx
     ·exact .inl z
    ·exact .inr fun c' q=>h c' (by rw[xy,hb]at q;exact q)
  ·rename_i hk
   refine zIq r n acc x c hn ?_ e
   rcases h with h|h
   ·rcases xC.mp h with z|z
    ·cases z;exact absurd rfl hk
    ·exact .inl z
   ·exact .inr h
theorem zIr:∀(names:List (Str × NameKind)) (n:Nat) (acc:List (Str × Addr)) (x:Str),(∀y∈names,y.1=x->y.2≠.cell)->(cellsFrom n names acc).lookup x=acc.lookup x
 | [],_,_,_,_=>rfl
 | (m,k)::r,n,acc,x,h=>by
  unfold cellsFrom
  split
  ·rename_i hk
   rw[zIr r _ _ x fun y hy=>h y (xS _ hy),xy]
   have hx:(x == m)=false:=by
    cases q:x == m with
    | false=>rfl
    | true=>exact absurd (by simpa using hk) (h (m,k) xP (by simpa using(xA.mp q).symm))
   rw[hx]
  ·exact zIr r n acc x fun y hy=>h y (xS _ hy)
theorem zIs:∀(names:List (Str × NameKind)) (n:Nat) (acc:List (Str × Addr)),(∀x c,acc.lookup x=some c->c<n)->(∀x y c,acc.lookup x=some c->acc.lookup y=some c->x=y)->
  ∀x y c,(cellsFrom n names acc).lookup x=some c->(cellsFrom n names acc).lookup y=some c->x=y
 | [],_,_,_,h=>h
 | (m,k)::r,n,acc,hl,h=>by
  unfold cellsFrom
  split
  ·refine zIs r (n+1) _ (fun x c e=>?_) fun x y c e1 e2=>?_
   ·rw[xy]at e
    cases q:x == m with
    | true=>rw[q]at e;cases e;exact Nat.lt_succ_self _
    | false=>rw[q]at e;exact Nat.lt_succ_of_lt (hl x c e)
   ·rw[xy]at e1 e2
    cases q:x == m with
    | true=>
     cases q':y == m with
     | true=>rw[xA.mp q,xA.mp q']
     | false=>rw[q]at e1;rw[q']at e2;cases e1;exact absurd (hl y _ e2) (xO _)
    | false=>
     cases q':y == m with
     | true=>rw[q]at e1;rw[q']at e2;cases e2;exact absurd (hl x _ e1) (xO _)
     | false=>rw[q]at e1;rw[q']at e2;exact h x y c e1 e2
  ·exact zIs r n acc hl h
theorem zDh:∀(names:List (Str × NameKind)) (n:Nat) (acc:List (Str × Addr)) (x:Str),((x,NameKind.cell)∈names\/∃c,acc.lookup x=some c)->∃c,(cellsFrom n names acc).lookup x=some c
 | [],_,_,_,h=>h.elim (fun z=>nomatch z) id
 | (m,k)::r,n,acc,x,h=>by
  unfold cellsFrom
  split
  ·refine zDh r (n+1) _ x ?_
   cases q:x == m with
   | true=>exact .inr ⟨n,by rw[xy,q]⟩
   | false=>
    rcases h with h|⟨c,h⟩
    ·rcases xC.mp h with z|z
     ·rw[show x=m from congrArg Prod.fst z,vA]at q;cases q
     ·exact .inl z
    ·exact .inr ⟨c,by rw[xy,q];exact h⟩
  ·rename_i hk
   refine zDh r n acc x ?_
   rcases h with h|h
   ·rcases xC.mp h with z|z
    ·cases z;exact absurd rfl hk
    ·exact .inl z
   ·exact .inr h
theorem zEs:∀(names:List (Str × NameKind)) (h:Heap) (acc:List (Str × Addr)) (lo:Nat),lo<=h.objs.size->(∀x c,acc.lookup x=some c->lo<=c->h.IsCell c none)->∀x c,(cellsFrom h.objs.size names acc).lookup x=some c->lo<=c->(pushCells h names).IsCell c none
 | [],_,_,_,_,q=>q
 | (m,k)::r,h,acc,lo,hl,q=>by
  unfold cellsFrom pushCells
  split
  ·have:=zEs r (h.push { cls:=.type "cell",data:=.cell none }) ((m,h.objs.size)::acc) lo (by rw[xX];lia) fun x c e hc=>by
    rw[xy]at e
    cases z:x == m with
    | true=>rw[z]at e;cases e;exact⟨_,xv _ rfl,rfl⟩
    | false=>rw[z]at e;exact(q x c e hc).keeps fun b o e=>xl _ e
   rwa[xX]at this
  ·exact zEs r h acc lo hl q
theorem zHl {scope:Scope}{globals:Addr}{closure:List (Str × Addr)}{qual:Str}{around:Env}{Q:Env->Shared->Prop}
  (hQ:Q (newEnv scope s.heap.objs.size globals (cellsFrom (s.heap.objs.size+1) scope.names closure) qual none .none (some around) builtinsNs) { s with heap:=pushCells (s.heap.push { cls:=.type "dict",data:=.dict #[] }) scope.names }):
  wpAny M A (newFunctionEnv scope globals closure [] qual none .none (some around)) Q E s:=by
 simp only[newFunctionEnv,Option.isSome_some,xj]
 refine xa (wpAny_alloc ?_)
 refine xa (wpAny_layCells _ (fun name kind cells=>by cases hkc:kind == NameKind.cell <;> simp[hkc]) _ _ _ _ ?_)
 rw[show({ s with heap:=s.heap.push { cls:=.type "dict",data:=.dict #[] } }:Shared).heap.objs.size=s.heap.objs.size+1 from xX ..]
 simp only[List.forIn_nil]
 exact xa (xf (xf hQ))
end
structure ClOk (X:Cx) (scope:Scope) (C:Addr) (cl:List (Str × Addr)):Prop where
 inj:∀x y c,cl.lookup x=some c->cl.lookup y=some c->x=y
 own:∀x c,scope.names.lookup x=some .cell->cl.lookup x=some c->C<c
 old:∀x c,scope.names.lookup x≠some .cell->cl.lookup x=some c->X.env.cells.lookup x=some c
 has:∀y∈scope.names,(y.2=.free\/y.2=.cell)->∃c,cl.lookup y.1=some c
theorem ClOk.or {X:Cx}{scope:Scope}{C:Addr}{cl:List (Str × Addr)}(h:ClOk X scope C cl) {x:Str}{c:Addr}(e:cl.lookup x=some c):X.env.cells.lookup x=some c\/C<c:=by
 by_cases q:scope.names.lookup x=some .cell
 ·exact .inr (h.own x c q e)
 ·exact .inl (h.old x c q e)
noncomputable def zBc (own:List Str) (ix:List Nat) (σ:St):St:=own.map (fun _=>none)++ix.map fun i=>(σ[i]?).join
section
variable {X:Cx}{pins:List (Addr × Obj)}{σ:St}{H:Hp}{s:Shared}{own fre:List Str}{ix:List Nat}{scope:Scope}{cl:List (Str × Addr)}{fp:List Addr}{C:Addr}
theorem Inv.stkNo (I:Inv X pins σ H s) {b:Addr}(h:FpOk X pins H b):b ∉ frs X.stack:=fun hb=>
 (xC.mp (I.stkSub b hb)).elim h.2.1 h.2.2.1
theorem zOq (I:Inv X pins σ H s) (hf:∀b∈fp,FpOk X pins H b) (hlt:∀b∈fp,b<s.heap.objs.size) (S:CompScope X own fre ix scope) (hcl:ClOk X scope C cl)
  (hC:s.heap.objs.size<=C):(zA6 X (own++fre) scope cl C s H fp).Ok where
 mod:=I.ok.mod
 kind:=S.kind
 glob:=I.ok.glob
 blt:=I.ok.blt
 above:=hC
 inj:=hcl.inj
 has:=fun x hx=>by
  obtain⟨y,hy,e,k⟩:=zBs hx
  subst e
  exact hcl.has y hy k
 cab:=fun x c h e=>Nat.le_of_lt (vz hC (hcl.own x c (by simpa[zA6]using h) e))
 hd:=I.ok.hd
 frames:=I.ok.frames
 gds:=I.ok.gds
 stk:=.inl rfl
 exf:=fun b hb=>⟨xo (xn (hlt b hb) hC),fun x c e=>(hcl.or e).elim (fun e=>(hf b hb).2.2.2.2.1 x c e) fun z=>xk (xo (Nat.lt_trans (xn (hlt b hb) hC) z))⟩
 bs:=I.bs
 bsz:=xq I.ok.bsz I.sz
 noex:=fun b o e hb=>by
  rcases(hf b hb).2.2.2.1 with z|z
  ·exact I.ok.noex b o e z
  ·exact absurd (xn (xi e) (xq I.ok.bsz z)) (xO _)
 exfs:=fun b hb=>I.stkNo (hf b hb)
 funs:=I.stack
 frf:=I.stkFree
theorem zGd {h₁:Heap}{t':Nat}{m:Str->Option Value}(I:Inv X pins σ H s) (hf:∀b∈fp,FpOk X pins H b) (hlt:∀b∈fp,b<s.heap.objs.size) (S:CompScope X own fre ix scope) (hcl:ClOk X scope C cl) (hnew:∀x c,cl.lookup x=some c->C<c->h₁.IsCell c none)
  (hC:s.heap.objs.size<=C) (old:∀b o,s.heap.get? b=some o->h₁.get? b=some o) (hn:h₁.Ns C m):
  Inv (zA6 X (own++fre) scope cl C s H fp) [] (zBc own ix σ) H { s with heap:=h₁,toks:=t' } where
 ok:=zOq I hf hlt S hcl hC
 os:=rfl
 bare:=I.bare
 base:=Un.kept old
 loc:=by
  refine⟨m,hn,fun i x v e1 e2 e3=>?_⟩
  obtain⟨m0,hn0,hl⟩:=I.loc
  have hi:own.length<=i:=by
   rcases Nat.lt_or_ge i own.length with z|z
   ·rw[zBc,xK (by simpa using z),xV]at e2
    cases q:own[i]? <;> rw[q]at e2 <;> simp at e2
   ·exact z
  have e1':(own++fre)[i]?=some x:=e1
  rw[xU hi]at e1'
  rw[zBc,xU (by simpa using hi),xV,xE]at e2
  cases q:ix[i-own.length]? with
  | none=>rw[q]at e2;simp at e2
  | some j=>
   rw[q]at e2
   obtain⟨hN,hk⟩:=S.at_ _ _ _ e1' q
   have e2':(σ[j]?).join=some v:=by simpa using e2
   have e4:σ[j]?=some (some v):=by
    cases z:σ[j]? with
    | none=>rw[z]at e2';cases e2'
    | some o=>rw[z]at e2';exact congrArg some e2'
   obtain⟨u,r,lk⟩:=hl j x v hN e4 (hk.elim (fun z=>.inr (.inl z)) fun z=>.inr (.inr z))
   refine⟨u,r,.inr ?_⟩
   rcases lk with⟨k,_⟩|⟨k,c,ec,hc⟩
   ·rcases hk with z|z <;> · rw[k]at z;cases z
   ·have fin:((zA6 X (own++fre) scope cl C s H fp).env.kindOf x=some .cell\/(zA6 X (own++fre) scope cl C s H fp).env.kindOf x=some .free):=by
     exact S.vis x (vO e1')
    refine⟨fin,?_⟩
    obtain⟨y,hy,e,kf⟩:=zBs fin
    subst e
    obtain⟨c',hc'⟩:=hcl.has y hy kf
    have:=(hcl.old _ _ (S.fno _ (vO e1')) hc').symm.trans ec
    cases this
    exact⟨c,hc',by obtain⟨o,ho,hd⟩:=hc;exact⟨o,old _ _ ho,hd⟩⟩
 cell:=fun x c e=>by
  rcases hcl.or e with q|q
  ·obtain⟨v,o,ho,hd⟩:=I.cell x c q
   exact⟨v,o,old _ _ ho,hd⟩
  ·exact⟨none,hnew x c e q⟩
 free:=I.hok.fresh hC
 freeC:=fun x c e=>(hcl.or e).elim (fun q=>I.freeC x c q) fun q=>I.hok.fresh (Nat.le_of_lt (vz hC q))
 pin:=fun p hp=>nomatch hp
 hok:=I.hok.kept old
 len:=by simp[zBc,zA6,S.len]
end
noncomputable def PIfs (X:Cx) (ifs:List Expr) (t:TT):Prop:=
 ∀(pins:List (Addr × Obj)) (s:Shared) (σ:St) (H:Hp) (Q:Bool->Hp->Prop),Inv X pins σ H s->t σ H Q->
  wpAny (model X.prog X.w) X.A (forIn ifs true fun c r=>if r=true then do let ok <- isTrue c X.env (eval c X.env);pure (ForInStep.yield ok)else pure (ForInStep.yield r)) (TP X pins σ Q) X.xe s
noncomputable def tYes:TT:=fun _ H Q=>Q true H
theorem zJr {X:Cx}:PIfs X [] tYes:=fun pins s σ H Q I h=>xf ⟨H,I,h⟩
theorem zJq {X:Cx}{c:Expr}{t:TT}(hc:PT X c t):PIfs X [c] t:=by
 intro pins s σ H Q I h
 rw[List.forIn_cons]
 simp only[xj]
 refine xa (xa (thn (hc pins s σ H Q I h) fun b s1 q=>xf ?_))
 simp only[List.forIn_nil]
 exact xf q
noncomputable def zL3 (J:It) (g:TG) (tt:TT) (te:TE) (σc:St) (H1:Hp) (Qd:List V->Hp->Prop):Prop:=
 ∃W:Nat->Nat->List V->St->Hp->Prop,(∃m,W 0 m [] σc H1)/\∀i m ys σ H,W i m ys σ H->
  (J.stop i H/\Qd ys H)\/(J.go i H/\ys.length<sizeLine/\∃N:List V->St->Hp->Prop,(∀zs σ' H',N zs σ' H'->∃m',m'<m/\W (i+1) m' zs σ' H')/\∀x H',J.yld i H x H'->g x σ H' fun σ2 H2=>tt σ2 H2 fun c H3=>
   if c=true then te σ2 H3 fun y H4=>N (ys++[y]) σ2 H4 else N ys σ2 H3)
theorem HOk.adopt {P:Program}{w:World}{H:Hp}{h:Heap}{D:Addr}{o:HO}(x:HOk P w H h) (n:H D=none) (new:ObjOk P w (upd H D o) h D o):HOk P w (upd H D o) h:=fun b u e=>by
 by_cases hb:b=D
 ·subst hb
  rw[zA5]at e
  cases e
  exact new
 ·rw[zA3 hb]at e
  refine(x b u e).stay (fun c v _ q=>q) (fun c q=>?_) fun c xs q=>?_
  ·rw[zA3 (zA2 q n)];exact q
  ·rw[zA3 (zA2 q n)];exact q
theorem Un.adopt {fs ex:List Addr}{H H':Hp}{h h':Heap}{D:Addr}{o:HO}(u:Un fs ex H H' h h') (hD:h.objs.size<=D) (n:H' D=none):Un fs ex H (upd H' D o) h h' where
 keep:=u.keep
 slot:=u.slot
 free:=fun b ob e n' hx=>by rw[zA3 (xo (xn (xi e) hD))];exact u.free b ob e n' hx
 there:=u.there
 tups:=fun b xs e=>by have:=u.tups b xs e;rw[zA3 (zA2 this n)];exact this
 frzs:=fun b ob xs e=>by have:=u.frzs b ob xs e;rw[zA3 (zA2 this n)];exact this
 tbls:=fun b ps e=>by obtain⟨m,z⟩:=u.tbls b ps e;exact⟨m,by rw[zA3 (zA2 z n)];exact z⟩
section
variable {X:Cx}{pins:List (Addr × Obj)}{σ:St}{H2:Hp}{s2:Shared}{own fre:List Str}{ix:List Nat}{scope:Scope}{cl:List (Str × Addr)}{fp:List Addr}{C:Addr}
theorem zCz {tg elt iter:Expr}{ifs:List Expr}{pos:Pos}{J:It}{it:Addr}{tn:Nat->Heap->Prop}{g:TG}{tt:TT}{te:TE}{Qd:List V->Hp->Prop}{RR:Value->Addr->Result->Shared->Prop}{E:Value->Shared->Prop}{cl0:List (Str × Addr)}
  (I2:Inv X pins σ H2 s2) (T:Turn X.prog X.w X.K tg J fp it tn) (st2:tn 0 s2.heap) (f2:∀b∈fp,FpOk X pins H2 b) (hc:X.calm=true) (S:CompScope X own fre ix scope)
  (hcl0:∀x c,cl0.lookup x=some c->X.env.cells.lookup x=some c) (hcf0:∀y∈scope.names,y.2=.free->∃c,cl0.lookup y.1=some c)
  (hg:∀cl C,PG (zA6 X (own++fre) scope cl C s2 H2 fp) tg g) (hi:∀cl C,PIfs (zA6 X (own++fre) scope cl C s2 H2 fp) ifs tt) (he:∀cl C,PE (zA6 X (own++fre) scope cl C s2 H2 fp) elt te)
  (q:zL3 J g tt te (zBc own ix σ) H2 Qd)
  (hRR:∀D C s' m' ys H',Inv X pins σ (upd H' D (.lst ys)) s'->s'.heap.Ns C m'->FpOk X pins (upd H' D (.lst ys)) C->H' D=none->Qd ys H'->RR (.ref D) C (.ok .next) s'):
  wpAny (model X.prog X.w) X.A (newList []) (fun acc s₃=>wpAny (model X.prog X.w) X.A (newFunctionEnv scope X.env.globals cl0 [] X.env.qual none .none (some X.env)) (fun cenv s₄=>
   codeAny (model X.prog X.w) X.A (.compStart (.ListComp elt [⟨tg,iter,ifs,0⟩] scope pos) 0 (.ref it) acc { cenv with scope:=relabel scope X.env }) (RR acc cenv.locals) s₄) E s₃) E s2:=by
 obtain⟨W,⟨m0,w0⟩,turn⟩:=q
 refine vg (zHl ?_)
 dsimp only
 generalize hHH:s2.heap.push { cls:=.type "list",dict:=none,data:=.seq ([]:List Value).toArray }=HH
 have hC:HH.objs.size=s2.heap.objs.size+1:=by rw[<- hHH,xX]
 have hns₁:(pushCells (HH.push { cls:=.type "dict",data:=.dict #[] }) scope.names).Ns HH.objs.size fun _=>none:=(Heap.Ns.new HH (.type "dict")).keeps (pushCells_keeps _ _)
 have hkp:∀b o,HH.get? b=some o->(pushCells (HH.push { cls:=.type "dict",data:=.dict #[] }) scope.names).get? b=some o:=fun b o e=>pushCells_keeps _ _ b o (xl _ e)
 have hltc:∀x c,cl0.lookup x=some c->c<HH.objs.size+1:=fun x c e=>by
  obtain⟨v,o,ho,_⟩:=I2.cell x c (hcl0 x c e)
  rw[hC]
  exact Nat.lt_succ_of_lt (Nat.lt_succ_of_lt (xi ho))
 have hnew:∀x c,(cellsFrom (HH.objs.size+1) scope.names cl0).lookup x=some c->HH.objs.size<c->(pushCells (HH.push { cls:=.type "dict",data:=.dict #[] }) scope.names).IsCell c none:=by
  have:=zEs scope.names (HH.push { cls:=.type "dict",data:=.dict #[] }) cl0 (HH.objs.size+1) (by rw[xX];exact xh _) fun x c e hc=>absurd (xn (hltc x c e) hc) (xO _)
  rw[xX]at this
  exact fun x c e h=>this x c e h
 have hcl:ClOk X scope HH.objs.size (cellsFrom (HH.objs.size+1) scope.names cl0):={
  inj:=zIs _ _ _ hltc fun x y c e1 e2=>I2.ok.inj x y c (hcl0 x c e1) (hcl0 y c e2)
  own:=fun x c h e=>zIq _ _ _ x c (xh _) (.inl (vt h)) e
  old:=fun x c h e=>by
   rw[zIr _ _ _ x fun y hy ex ec=>h (by rw[<- ex];exact S.cell y hy ec)]at e
   exact hcl0 x c e
  has:=fun y hy hk=>by
   obtain⟨n,k⟩:=y
   rcases hk with hk|hk
   ·exact zDh _ _ _ _ (.inr (hcf0 _ hy hk))
   ·dsimp only at hk
    subst hk
    exact zDh _ _ _ _ (.inl hy) }
 generalize cellsFrom (HH.objs.size+1) scope.names cl0=cl at hnew hcl ⊢
 generalize pushCells (HH.push { cls:=.type "dict",data:=.dict #[] }) scope.names=h₁ at hns₁ hkp hnew ⊢
 generalize hDe:s2.heap.objs.size=D at *
 generalize hCe:HH.objs.size=C at *
 have hDC:D≠C:=by nofun
 have hDle:s2.heap.objs.size<=D:=by nofun
 have hCle:s2.heap.objs.size<=C:=by nofun
 have below:∀b o,s2.heap.get? b=some o->b≠C/\b≠D:=fun b o e=>⟨xo (xn (xi e) hCle),xo (xn (xi e) hDle)⟩
 have old:∀b o,s2.heap.get? b=some o->h₁.get? b=some o:=fun b o e=>hkp b o (hHH ▸ xl _ e)
 have hacc:=hkp _ _ (hHH ▸ hDe ▸ xv _ rfl)
 have fpo:=T.obj _ _ st2
 have hlt:∀b∈fp,b<s2.heap.objs.size:=fun b hb=>by obtain⟨o,e,_⟩:=fpo b hb;exact xi e
 have hDf:D ∉ fp:=fun hm=>absurd (xn (hlt D hm) hDle) (xO _)
 have hcD:∀x c,cl.lookup x=some c->c≠D:=fun x c e z=>by
  rcases hcl.or e with q|q
  ·obtain⟨v,o,ho,_⟩:=I2.cell x c q
   exact(below c o ho).2 z
  ·exact absurd (xn q (by rw[z,hC];exact vm _)) (xO _)
 let Xc:=zA6 X (own++fre) scope cl C s2 H2 fp
 have hnoS:∀b,s2.heap.objs.size<=b->b ∉ frs X.stack:=fun b hb z=>by
  rcases xC.mp (I2.stkSub b z)with z|z
  ·exact absurd (xn I2.lt hb) (by rw[z];exact xO _)
  ·exact I2.nofs hb z
 have loop:∀t',codeAny (model X.prog X.w) X.A (.compLoop (.ListComp elt [⟨tg,iter,ifs,0⟩] scope pos) 0 (.ref it) (.ref D) (compEnvC scope cl C X.env)) (RR (.ref D) C) { s2 with heap:=h₁,toks:=t' }:=by
  intro t'
  have I4:Inv Xc [] (zBc own ix σ) H2 { s2 with heap:=h₁,toks:=t' }:=zGd I2 f2 hlt S hcl hnew hCle old hns₁
  refine zE2 (fun n s'=>∃i ys σ' H' its k,Inv Xc [] σ' H' s'/\tn i s'.heap/\(∀b∈fp,H' b=none)/\H' D=none/\s'.heap.get? D=some ({ cls:=.type "list",data:=.seq (List.toArray its) k }:Obj)/\Vals ys its/\ys.length<=sizeLine/\W i n ys σ' H')
   ?_ m0 ⟨0,[],_,H2,[],_,I4,T.keep _ _ _ st2 (fun b _ o e=>old b o e),fun b hb=>(f2 b hb).1,I2.hok.fresh hDle,hacc,.nil,xW _,w0⟩
  rintro n s3 ⟨i,ys,σ3,H3,its,k,I3,st3,fr3,hD3,ho3,hv3,hz3,w3⟩
  have I3p:Inv Xc [(D,{ cls:=.type "list",data:=.seq (List.toArray its) k })] σ3 H3 s3:=I3.pins_of fun p hp=>by
   have e:p=(D,({ cls:=.type "list",data:=.seq (List.toArray its) k }:Obj)):=by simpa using hp
   subst e
   exact⟨ho3,hD3,hDC,hnoS D hDle,fun v z=>by cases z⟩
  have stat:∀{H':Hp},(∀b∈fp,H' b=none)->∀b∈fp,FpOk Xc [(D,({ cls:=.type "list",data:=.seq (List.toArray its) k }:Obj))] H' b:=fun hn b hb=>
   ⟨hn b hb,xo (xn (hlt b hb) hCle),I2.stkNo (f2 b hb),.inl hb,fun x c e=>(hcl.or e).elim (fun e=>(f2 b hb).2.2.2.2.1 x c e) fun z=>xk (xo (Nat.lt_trans (xn (hlt b hb) hCle) z)),fun p hp z=>by
    have e:p=(D,({ cls:=.type "list",data:=.seq (List.toArray its) k }:Obj)):=by simpa[Xc,zA6]using hp
    rw[e]at z;exact hDf (by rw[show D=b from z];exact hb)⟩
  rcases turn i n ys σ3 H3 w3 with⟨stop,qn⟩|⟨go,hys,N,hN,step⟩
  ·refine thn (T.done Xc rfl rfl rfl hc i _ s3 σ3 H3 _ I3p (stat fr3) st3 stop) fun r s4 hq1=>?_
   obtain⟨hr,I4⟩:=hq1
   subst hr
   have ho4:=(I4.pin (D,_) (xJ _ xP)).1
   obtain⟨m',hn',_⟩:=I4.loc
   have un:Un (frs X.stack) fp H2 (upd H3 D (.lst ys)) s2.heap s4.heap:=Un.adopt (I4.base) hDle hD3
   have hok:HOk X.prog X.w (upd H3 D (.lst ys)) s4.heap:=HOk.adopt (I4.hok) hD3 ⟨hz3,its,_,hv3,ho4⟩
   have IX:=I2.call' I4.os un hok I4.bare fun b hb=>⟨(f2 b hb).2.2.2.1,(f2 b hb).2.1,(f2 b hb).2.2.2.2.1,(f2 b hb).2.2.2.2.2⟩
   exact hRR D C s4 m' ys H3 IX hn' (I2.fpOk hCle (by rw[zA3 (xk hDC)];exact I4.free)) hD3 qn
  ·refine thn (T.item Xc rfl rfl rfl hc i _ s3 σ3 H3 _ I3p (stat fr3) st3 go) fun r s4 hq1=>?_
   obtain⟨u,hr,h4⟩:=hq1
   subst hr
   refine thn h4 fun _ s5 hq1=>?_
   obtain⟨x,H5,I5,r5,y5,st5,fr5⟩:=hq1
   have I5':=I5.pinned (stat fr5) (T.obj _ _ st5)
   refine thn (hg cl C _ s5 σ3 H5 x u _ I5' r5 (step x H5 y5)) fun _ s6 hq1=>?_
   obtain⟨σ6,H6,I6,q6⟩:=hq1
   refine thn (hi cl C _ s6 σ6 H6 _ I6 q6) fun b s7 hq1=>?_
   obtain⟨H7,I7,q7⟩:=hq1
   have keepT:∀{σ7:St}{H7:Hp}{s7:Shared}{h':Heap},Inv Xc ([(D,({ cls:=.type "list",data:=.seq (List.toArray its) k }:Obj))]++zDr fp s5.heap) σ7 H7 s7->(∀b o,b≠D->s7.heap.get? b=some o->h'.get? b=some o)->tn (i+1) h'/\∀b∈fp,H7 b=none:=fun {σ7 H7 s7 h'} I7 hk=>by
    refine⟨T.keep _ _ _ st5 fun b hb o e=>hk b o (fun z=>hDf (z ▸ hb)) (I7.pin (b,o) (xJ _ (xJ _ (zB7 hb e)))).1,fun b hb=>?_⟩
    obtain⟨o,e,d⟩:=T.obj _ _ st5 b hb
    exact(I7.pin (b,o) (xJ _ (xJ _ (zB7 hb e)))).2.1
   cases b with
   | false=>
    obtain⟨m',hm,w7⟩:=hN _ _ _ q7
    obtain⟨t7,f7⟩:=keepT I7 fun _ _ _ e=>e
    have pD:=I7.pin (D,_) (xJ _ (vM _ xP))
    exact⟨m',hm,i+1,ys,σ6,H7,its,k,I7.pins_of (fun p hp=>nomatch hp),t7,f7,pD.2.1,pD.1,hv3,hz3,w7⟩
   | true=>
    refine thn (he cl C _ s7 σ6 H7 _ I7 q7) fun y s8 hq1=>?_
    obtain⟨v,H8,I8,r8,n8⟩:=hq1
    obtain⟨m',hm,w8⟩:=hN _ _ _ n8
    have pD:=I8.pin (D,_) (xJ _ (vM _ xP))
    have hsz:its.toArray.size<=sizeLine:=by rw[xm,<- hv3.length];exact hz3
    refine wpAny_list_append_plain (show s8.heap.PlainList D its.toArray from⟨_,pD.1⟩) fun h₅ hl₅ hs₅=>?_
    obtain⟨t8,f8⟩:=keepT I8 fun b o hb e=>hs₅.extBut b o hb e
    obtain⟨k',ho5⟩:=hl₅
    have I9:=(I8.pins_of (pins':=[]) (fun p hp=>nomatch hp)).turned (t':=s8.toks) (fun b o hb e=>hs₅.extBut b o hb e) pD.2.1 hDC (.inr hDle) hcD fun p hp=>nomatch hp
    refine⟨m',hm,i+1,ys++[v],σ6,H8,its++[y],k',I9,t8,f8,pD.2.1,?_,hv3.append (.cons r8 .nil),(by rw[xZ,List.length_singleton];exact hys),w8⟩
    show h₅.get? D=_
    rw[ho5];simp
 exact codeAny_compStart_list (loop _) (T.self _ 0 _ _ _ (T.keep _ _ _ st2 (fun b _ o e=>old b o e)) (loop _))
end
noncomputable def zEg (own:List Str) (ix:List Nat) (wi:TI) (g:TG) (tt:TT) (te:TE):TE:=fun σ H Q=>wi σ H fun J H1=>
 zL3 J g tt te (zBc own ix σ) H1 fun ys H2=>∀D,H2 D=none->Q (.ref D) (upd H2 D (.lst ys))
section
variable {X:Cx}{own fre:List Str}{ix:List Nat}{scope:Scope}
theorem zJw {tg elt iter:Expr}{ifs:List Expr}{pos:Pos}{wi:TI}{g:TG}{tt:TT}{te:TE}(hc:X.calm=true) (S:CompScope X own fre ix scope) (hi:PI X tg iter wi)
  (hg:∀cl C s H fp,PG (zA6 X (own++fre) scope cl C s H fp) tg g) (ht:∀cl C s H fp,PIfs (zA6 X (own++fre) scope cl C s H fp) ifs tt) (he:∀cl C s H fp,PE (zA6 X (own++fre) scope cl C s H fp) elt te)
  (hs:∀x,foldedSetIterable iter X.env x=pure x:=by intro _;rfl):PE X (.ListComp elt [⟨tg,iter,ifs,0⟩] scope pos) (zEg own ix wi g tt te):=by
 intro pins s σ H Q I h
 obtain⟨cl,ecl,hcl,hcf⟩:=zBk fun y hy hf=>I.ok.has y.1 (S.fr y hy hf)
 rw[eval_ListComp]
 refine wpAny_comprehension_free rfl hs ecl S.kind S.loc (thn (hi pins s σ H _ I h) fun v s1 h1=>thn h1 fun itv s2 h2=>?_)
 obtain⟨it,fp,tn,J,H2,e,I2,T,st2,f2,q⟩:=h2
 subst e
 refine zCz I2 T st2 f2 hc S hcl hcf (fun cl C=>hg _ _ _ _ _) (fun cl C=>ht _ _ _ _ _) (fun cl C=>he _ _ _ _ _) q ?_
 intro D C s' m' ys H' IX hn fC hD qd
 refine⟨m',hn,fun h' hs'=>?_⟩
 exact⟨.ref D,_,IX.turned (fun b o hb e=>hs'.extBut b o hb e) fC.1 fC.2.1 fC.2.2.2.1 fC.2.2.2.2.1 fC.2.2.2.2.2,rfl,qd D hD⟩
theorem zMi {i:Nat}{x:Str}{pos':Pos}{tg elt iter:Expr}{ifs:List Expr}{pos cpos:Pos}{wi:TI}{g:TG}{tt:TT}{te:TE}(hN:X.N.Nodup) (hix:X.N[i]?=some x) (hx:Loc X.env.scope x)
  (hc:X.calm=true) (S:CompScope X own fre ix scope) (hi:PI X tg iter wi)
  (hg:∀cl C s H fp,PG (zA6 X (own++fre) scope cl C s H fp) tg g) (ht:∀cl C s H fp,PIfs (zA6 X (own++fre) scope cl C s H fp) ifs tt) (he:∀cl C s H fp,PE (zA6 X (own++fre) scope cl C s H fp) elt te)
  (hsw:swapsWith (.ListComp elt [⟨tg,iter,ifs,0⟩] scope cpos) (some (.Name x pos')) pos.line X.env=pure true:=by rfl)
  (hs:∀x,foldedSetIterable iter X.env x=pure x:=by intro _;rfl) (hf:X.fn x=true\/X.env.scope.names.lookup x=some .local:=by first|exact .inl rfl|exact .inr rfl|assumption):
  PS X (.Assign [.Name x pos'] (.ListComp elt [⟨tg,iter,ifs,0⟩] scope cpos) pos) (tAsg (zEg own ix wi g tt te) (gName i)):=by
 intro pins s σ H D I h
 obtain⟨cl,ecl,hcl,hcf⟩:=zBk fun y hy hf=>I.ok.has y.1 (S.fr y hy hf)
 rw[exec_Assign_Name_used _ _ _ _ hsw]
 refine xa (vf (xa ?_))
 show wpAny _ X.A (do let _ <- comprehension (.ListComp elt [⟨tg,iter,ifs,0⟩] scope cpos) scope X.env _ (newList []) false (eval iter X.env) (some (assign (.Name x pos') X.env))) _ _ s
 refine xa (xw (wpAny_comprehension_free rfl hs ecl S.kind S.loc
  (thn (hi pins s σ H _ I h) fun v s1 h1=>thn h1 fun itv s2 h2=>?_)) (fun _ s' hq=>xf (xf hq)) fun _ _ e=>e)
 obtain⟨it,fp,tn,J,H2,e,I2,T,st2,f2,q⟩:=h2
 subst e
 refine zCz I2 T st2 f2 hc S hcl hcf (fun cl C=>hg _ _ _ _ _) (fun cl C=>ht _ _ _ _ _) (fun cl C=>he _ _ _ _ _) q ?_
 intro D' C s' m' ys H' IX hn fC hD qd
 show wpAny _ X.A (assign (.Name x pos') X.env (.ref D')) _ _ _
 refine wpAny_assign_Name (zDn (v:=.ref D') IX hN hix hx rfl (fun s'' I'' hsb=>?_) hf)
 obtain⟨a,hsb,ha⟩:=hsb
 have hCa:C≠a:=by
  rcases ha with z|z
  ·rw[z];exact fC.2.1
  ·exact xk (fC.2.2.2.2.1 x a z)
 refine⟨m',hn.sameBut hsb hCa,fun h' hs'=>?_⟩
 exact⟨_,_,I''.turned (fun b o hb e=>hs'.extBut b o hb e) fC.1 fC.2.1 fC.2.2.2.1 fC.2.2.2.2.1 fC.2.2.2.2.2,qd D' hD⟩
end
end L2
namespace LX
open PySem
open Sem (wp)
theorem zK5:typeLookup (.type "list_reverseiterator") "__len__"=pure none:=by rw[typeLookup_type,builtinLookup_eq_fast];kernel_rfl
theorem zNu:typeLookup (.type "list_reverseiterator") "__length_hint__"=pure (some (.builtin "list_reverseiterator.__length_hint__")):=by rw[typeLookup_type,builtinLookup_eq_fast];kernel_rfl
section
variable {prog:Program}{w:World}{A:Around}{E:Value->Shared->Prop}{s:Shared}
theorem zG9 {R:Result->Shared->Prop}{I l:Addr}{items:Array Value}(hh:A.handled=none) (hne:l≠I) (hit:s.heap.IsRevIter I l ((items.size:Int)-1)) (hl:s.heap.IsList l items)
  (S:Addr) (res:Value) (c₀:Nat) (hSI:S≠I) (hSl:S≠l) (hS:s.heap.get? S=some { cls:=.type "list",data:=.seq #[] c₀ }) (hn:items.size<=sizeLine)
  (hR:∀h' tk acc' c',(∀b o,b≠S->b≠I->s.heap.get? b=some o->h'.get? b=some o)->h'.get? S=some { cls:=.type "list",dict:=none,data:=.seq acc' c',slots:=#[] }->
   ItemsOf (fun i v=>items[items.size-1-i]?=some v) acc' items.size->R (.ok (.ret res)) { s with heap:=h',toks:=tk }):
  wpAny (model prog w) A.in1 (Builtin.List.listExtendWith (.ref S) (.ref I) res)
   (fun fin s'=>match fin with|.done f=>R (.ok f) s'|.again c'=>c'.quiet=true/\codeAny (model prog w) A c' R s') (fun e s'=>R (.error e) s') s:=by
 have W:=(Walks.listRev (prog:=prog) (w:=w) (A:=A.in1) hh I l hne items).toS
 have st:0<=items.size/\s.heap.IsRevIter I l ((items.size:Int)-1-((0:Nat):Int))/\s.heap.IsList l items:=⟨xW _,by simpa using hit,hl⟩
 have hT:=hit.typeIs
 have hSf:S ∉ [I,l]:=fun hm=>by
  rcases xC.mp hm with z|z
  ·exact hSI z
  ·exact hSl (List.mem_singleton.mp z)
 have h1:Builtin.List.listSameRef (.ref S) (.ref I)=false:=by simp[Builtin.List.listSameRef,hSI]
 unfold Builtin.List.listExtendWith
 refine xa (wpAny_typeOf hT ?_)
 rw[xc (by rw[h1];decide)]
 refine xa (wpAny_pyIter_revIter hit ?_)
 refine xa (xx ?_)
 unfold Builtin.List.listLengthHint
 refine xa (wpAny_specialOf hT zK5 ?_)
 show wpAny _ A.in1 (specialOf (Value.ref I) (Str.ofString "__length_hint__") >>= _) _ _ _
 refine xa (wpAny_specialOf hT zNu ?_)
 (generalize hid:("list_reverseiterator.__length_hint__":String)=id0;(fail_if_success (clear hid id0));wp_delta;rw[show splitId id0=some ("list_reverseiterator","__length_hint__")from by subst hid;decide +kernel];subst hid)
 refine xa (wpAny_isInstance (b:=true) hT (by rw[isSubtype_type];kernel_rfl) ?_)
 refine xf ?_
 rw[xc (by decide)]
 refine xf ⟨plainId_quiet F.plain_extend_loop _,codeAny_extend_loopS W hn _ hSf _ items.size 0 _ _ _ rfl (xW _) st hS (ItemsOf.nil _) fun s' acc' c' hm hS' hacc=>?_⟩
 rw[Moved.eq_with hm]
 refine hR s'.heap s'.toks acc' c' (fun b o hb hb' e=>hm.heap b o (fun hmem=>?_) e) hS' hacc
 rcases xC.mp hmem with z|z
 ·exact hb z
 ·exact hb' (List.mem_singleton.mp z)
theorem zKf {R:Result->Shared->Prop}{I l:Addr}{items:Array Value}(hh:A.handled=none) (hne:l≠I) (hit:s.heap.IsRevIter I l ((items.size:Int)-1)) (hl:s.heap.IsList l items)
  (S:Addr) (hSI:S≠I) (hSl:S≠l) (hS:s.heap.get? S=some { cls:=.type "list",data:=.seq #[] }) (hn:items.size<=sizeLine)
  (hR:∀h' tk acc' c',(∀b o,b≠S->b≠I->s.heap.get? b=some o->h'.get? b=some o)->h'.get? S=some { cls:=.type "list",dict:=none,data:=.seq acc' c',slots:=#[] }->
   ItemsOf (fun i v=>items[items.size-1-i]?=some v) acc' items.size->R (.ok (.ret .none)) { s with heap:=h',toks:=tk }):
  wpAny (model prog w) A.in1 (Builtin.«list.__init__» ⟨[.ref S,.ref I],[]⟩)
   (fun fin s'=>match fin with|.done f=>R (.ok f) s'|.again c'=>c'.quiet=true/\codeAny (model prog w) A c' R s') (fun e s'=>R (.error e) s') s:=by
 show wpAny _ A.in1 (do let old <- Builtin.List.listItems (.ref S);Builtin.List.listUpdate (.ref S) (fun _=>#[]);letGo old.toList.reverse;Builtin.List.listExtendWith (.ref S) (.ref I) .none) _ _ s
 refine xa ?_
 unfold Builtin.List.listItems
 refine xa (wpAny_seqItems hS rfl (xf ?_))
 show wpAny _ A.in1 (updateSeq S (fun _=>#[]) >>= fun _=>letGo (#[]:Array Value).toList.reverse >>= fun _=>Builtin.List.listExtendWith (.ref S) (.ref I) .none) _ _ s
 refine xa (wpAny_updateSeq hS rfl ?_)
 have hS₂:=vJ (Obj.mapSeq (fun _=>(#[]:Array Value))) hS rfl
 have oth:∀b o,b≠S->s.heap.get? b=some o->(s.heap.update S (Obj.mapSeq (fun _=>(#[]:Array Value)))).get? b=some o:=
  fun b o hb e=>(xQ _ _ (xk hb)).trans e
 refine xa (wpAny_letGo ?_)
 refine zG9 hh hne (hit.at fun o e=>oth I o (xk hSI) e) (hl.at fun o e=>oth l o (xk hSl) e) S .none _ hSI hSl hS₂ hn fun h' tk acc' c' hk hS' hacc=>?_
 exact hR h' tk acc' c' (fun b o hb hb' e=>hk b o hb hb' (oth b o hb e)) hS' hacc
theorem call_list_rev {Q:Value->Shared->Prop}{I l:Addr}{items:Array Value}(hh:A.handled=none) (hne:l≠I) (hit:s.heap.IsRevIter I l ((items.size:Int)-1)) (hl:s.heap.IsList l items) (hn:items.size<=sizeLine)
  (hQ:∀h' tk acc' c',(∀b o,b≠I->s.heap.get? b=some o->h'.get? b=some o)->h'.get? s.heap.objs.size=some { cls:=.type "list",dict:=none,data:=.seq acc' c',slots:=#[] }->
   ItemsOf (fun i v=>items[items.size-1-i]?=some v) acc' items.size->Q (.ref s.heap.objs.size) { s with heap:=h',toks:=tk }):wpAny (model prog w) A (call (.type "list") [.ref I]) Q E s:=by
 refine callType_codes (Q₁:=fun obj s₁=>obj=.ref s.heap.objs.size/\s₁={ s with heap:=s.heap.push { cls:=.type "list",data:=.seq #[] } }) F.called_list (F.typeCall_list_1 _) F.entry_list_init
  (code_list_new _ ⟨rfl,rfl⟩) fun obj s₁ h₁=>?_
 obtain⟨rfl,rfl⟩:=h₁
 have hS:(s.heap.push { cls:=.type "list",data:=.seq #[] }).get? s.heap.objs.size=some { cls:=.type "list",data:=.seq #[] }:=xv _ rfl
 have nI:s.heap.objs.size≠I:=by obtain⟨o,ho,_⟩:=hit;exact xk (xo (xi ho))
 have nl:s.heap.objs.size≠l:=by obtain⟨o,ho,_⟩:=hl;exact xk (xo (xi ho))
 refine⟨⟨_,hS,rfl⟩,F.args_list_init_2 _ _,zKf (A:=A.in1) hh hne (hit.at fun o e=>xl _ e) (hl.at fun o e=>xl _ e) _ nI nl hS hn fun h' tk acc' c' hk hS' hacc=>?_⟩
 exact⟨rfl,hQ h' tk acc' c' (fun b o hb e=>hk b o (xo (xi e)) hb (xl _ e)) hS' hacc⟩
end
end LX
namespace L2
open PySem PySem.Spec PyProof.Rows
section
variable {X:Cx}
noncomputable def zD5 (K:PySem.W.Frag) (te:TE):TE:=fun σ H Q=>te σ H fun x H1=>∃a xs,x=.ref a/\SqL K H1 a xs/\∀l,H1 l=none->Q (.ref l) (upd H1 l (.lst xs.reverse))
theorem zEf {xs:List V}{its:List Value}{acc:Array Value}(r:Vals xs its) (h:ItemsOf (fun i v=>its.toArray[its.toArray.size-1-i]?=some v) acc its.toArray.size):acc.toList=its.reverse:=by
 obtain⟨hs,hi⟩:=h
 have hs':acc.size=its.length:=by simpa using hs
 refine List.ext_getElem? fun j=>?_
 rcases Nat.lt_or_ge j its.length with hj|hj
 ·have e1:acc[j]?=some (acc[j]'(by nofun)):=Array.getElem?_eq_getElem (by nofun)
  have e2:=hi j _ e1
  rw[Array.getElem?_toList,e1,List.getElem?_reverse hj,<- e2]
  simp
 ·rw[x9 (by simpa[hs']using hj),x9 (by simpa using hj)]
theorem zG0 {e:Expr}{te:TE}{p p2 pos pos2:Pos}(hc:X.calm=true) (he:PE X e te) (hgl:Gl X "list") (hml:X.mg "list"=none) (hgr:Gl X "reversed") (hmr:X.mg "reversed"=none)
  (hs:starEach [e] X.env=[(false,eval e X.env)]:=by rfl)
  (hs2:starEach [Expr.Call (.Name "reversed" p2) [e] [] pos2] X.env=[(false,eval (.Call (.Name "reversed" p2) [e] [] pos2) X.env)]:=by rfl):
  PE X (.Call (.Name "list" p) [.Call (.Name "reversed" p2) [e] [] pos2] [] pos) (zD5 X.K te):=by
 intro pins s σ H Q I h
 refine vp (zDv I hgl hml PyProof.Rows.boot_list ?_)
 refine vS ?_ hs2 rfl
 rw[hs2]
 show wpAny _ _ (spliced ((false,eval (.Call (.Name "reversed" p2) [e] [] pos2) X.env)::backTo pos [])) _ _ s
 refine Calls.spliced_cons ?_
 refine vp (zDv I hgr hmr PyProof.Rows.boot_reversed ?_)
 refine vS ?_ hs rfl
 rw[hs]
 show wpAny _ _ (spliced ((false,eval e X.env)::backTo pos2 [])) _ _ s
 refine Calls.spliced_cons (thn (he pins s σ H _ I h) fun u s1 hq1=>?_)
 obtain⟨x,H1,I1,r1,a,xs,ex,hq,q⟩:=hq1
 subst ex
 cases r1
 refine Calls.spliced_nil ?_
 obtain⟨its,rv,pl,hz⟩:=I1.list hq
 refine call_reversed_list pl.isList ?_
 refine Calls.spliced_nil ?_
 have I2:Inv X pins σ H1 { s1 with heap:=s1.heap.push (revObj a ((its.toArray.size:Int)-1)) }:=I1.kept fun b o e=>xl _ e
 have hne:a≠s1.heap.objs.size:=by obtain⟨o,ho,_⟩:=pl.isList;exact xo (xi ho)
 refine LX.call_list_rev (I.ok.hd hc) hne ⟨_,xv _ rfl,rfl,rfl⟩ (pl.isList.at fun o e=>xl _ e) (by simpa[<- rv.length]using hz) fun h' tk acc c kp ho hi=>?_
 have hfr:=I1.hok.fresh (xh _)
 have fp:=I1.fpOk (xh _) hfr
 have I3:=Inv.turned (t':=tk) I2 (fun b o hb e=>kp b o hb e) fp.1 fp.2.1 fp.2.2.2.1 fp.2.2.2.2.1 fp.2.2.2.2.2
 generalize hDD:(s1.heap.push (revObj a ((its.toArray.size:Int)-1))).objs.size=D at ho ⊢
 have hD:H1 D=none:=by rw[<- hDD];exact I2.hok.fresh (xh _)
 have fD:=I2.fpOk (by rw[<- hDD];exact xh _) hD
 have e1:=zEf rv hi
 have ho':h'.get? D=some { cls:=.type "list",dict:=none,data:=.seq (its.reverse).toArray c,slots:=#[] }:=by rw[ho,<- e1]
 have hok:HOk X.prog X.w (upd H1 D (.lst xs.reverse)) h':=HOk.adopt I3.hok hD ⟨by rw[List.length_reverse];exact hz,_,_,rv.reverse,ho'⟩
 have I4:Inv X pins σ (upd H1 D (.lst xs.reverse)) { s1 with heap:=h',toks:=tk }:=by
  refine Inv.call' (ch:=[s1.heap.objs.size]) I2 rfl ?_ hok I3.bare fun b hb=>?_
  ·have ne:∀b,b ∉ [s1.heap.objs.size]->b≠s1.heap.objs.size:=fun b hb z=>hb (by simp[z])
   exact⟨fun b o e _ _ hx=>kp b o (ne b hx) e,fun b o e _ _ hx=>⟨o.slots,kp b o (ne b hx) e⟩,fun b o e n _=>by
     rw[zA3 (xo (xn (xi e) (by rw[<- hDD];exact xh _)))];exact n,fun b o e hx=>⟨o,kp b o (ne b hx) e⟩,
    fun b ys e=>by rw[zA3 (zA2 e hD)];exact e,fun b o u e=>by rw[zA3 (zA2 e hD)];exact e,fun b ps e=>⟨#[],by rw[zA3 (zA2 e hD),e];simp⟩⟩
  ·have e:b=s1.heap.objs.size:=by simpa using hb
   subst e
   exact⟨fp.2.2.2.1,fp.2.1,fp.2.2.2.2.1,fp.2.2.2.2.2⟩
 exact⟨.ref D,_,I4,rfl,q D hD⟩
theorem zD4 {A:Around}{P:Program}{w:World}{bs:List Bool}{its:List Value}(r:Vals (bs.map V.bl) its):TruthOf P w A (fun i v=>its.toArray[i]?=some v) (fun i=>bs.getD i false):=by
 intro i v s Q E hv hq
 have hv':its[i]?=some v:=by simpa using hv
 have hlt:=(xu.mp hv').1
 have hl:=r.length
 rw[xE]at hl
 have hb:(bs.map V.bl)[i]?=some (V.bl (bs[i]'(by nofun))):=by rw[xV,xp (by nofun)];rfl
 obtain⟨u,hu,ru⟩:=r.get hb
 rw[hv']at hu
 cases hu
 cases ru
 dsimp only at hq
 rw[List.getD_eq_getElem?_getD,xp (by nofun)]at hq
 exact wpAny_truthy_bool hq
theorem zCl:∀bs:List Bool,((List.range bs.length).all fun i=>bs.getD i false)=bs.all id:=by
 intro bs
 rw[vn,xI,xI]
 constructor
 ·intro h b hb
  obtain⟨i,hi,rfl⟩:=List.mem_iff_getElem.mp hb
  have:=h i (List.mem_range.mpr hi)
  simpa[List.getD_eq_getElem?_getD,hi]using this
 ·intro h i hi
  have hi':=List.mem_range.mp hi
  have:=h bs[i] (List.getElem_mem hi')
  simpa[List.getD_eq_getElem?_getD,hi']using this
theorem zIw (hc:X.calm=true):zBl X (.builtin "all") (fun xs H Q=>∃(p:Addr) (bs:List Bool),xs=[.ref p]/\SqL X.K H p (bs.map V.bl)/\Q (.bl (bs.all id)) H):=by
 intro pins s σ H xs us Q I r h
 obtain⟨p,bs,rfl,hq,q⟩:=h
 obtain⟨u,rfl,rx⟩:=vals1 r
 cases rx
 obtain⟨its,rv,pl,hz⟩:=I.list hq
 have hl:=rv.length
 rw[xE]at hl
 have hne:p≠s.heap.objs.size:=by obtain⟨o,ho,_⟩:=pl.isList;exact xo (xi ho)
 refine call_all_walk (wpAny_pyIter_list pl.isList ?_)
 refine⟨_,_,_,_,_,_,_,rfl,Walks.list (A:=X.A.in1) (I.ok.hd hc) _ p hne its.toArray,⟨⟨_,xv _ rfl,rfl,rfl⟩,pl.isList.at fun o e=>xl _ e⟩,zD4 rv,fun h' tk hk=>?_⟩
 have hfr:=I.hok.fresh (xh _)
 have fp:=I.fpOk (xh _) hfr
 have e:((List.range its.toArray.size).all fun i=>bs.getD i false)=bs.all id:=by rw[xm,<- hl];exact zCl bs
 rw[e]
 exact⟨.bl (bs.all id),H,Inv.turned (I.kept fun b o e=>xl _ e) (fun b o hb e=>hk b o (by simpa using hb) e) fp.1 fp.2.1 fp.2.2.2.1 fp.2.2.2.2.1 fp.2.2.2.2.2,rfl,q⟩
end
end L2
namespace L2
open PySem PySem.Spec PyProof.Rows
inductive Dv where
 | non|bl (b:Bool)|int (i:Int)|str (x:Str)|tup (l:List Dv)|lst (l:List Dv)
mutual
noncomputable def Dv.eqv:Dv->Dv->Bool
 | .non,.non=>true
 | .bl a,.bl b=>a == b
 | .int a,.int b=>a == b
 | .str a,.str b=>decide (a=b)
 | .tup a,.tup b=>eqvL a b
 | .lst a,.lst b=>eqvL a b
 | _,_=>false
noncomputable def eqvL:List Dv->List Dv->Bool
 | [],[]=>true
 | a::r,b::t=>a.eqv b && eqvL r t
 | _,_=>false
end
mutual
noncomputable def Dv.cmp:Dv->Dv->Bool
 | .non,.non=>true
 | .bl _,.bl _=>true
 | .int _,.int _=>true
 | .str _,.str _=>true
 | .tup a,.tup b=>cmpL a b
 | .lst a,.lst b=>cmpL a b
 | _,_=>false
noncomputable def cmpL:List Dv->List Dv->Bool
 | a::r,b::t=>a.cmp b && cmpL r t
 | _,_=>true
end
mutual
noncomputable def Dv.dep:Dv->Nat
 | .tup l=>depL l+1
 | .lst l=>depL l+1
 | _=>0
noncomputable def depL:List Dv->Nat
 | []=>0
 | d::r=>max d.dep (depL r)
end
mutual
noncomputable def Den (K:PySem.W.Frag) (H:Hp):Dv->V->Prop
 | .non,v=>v=.non
 | .bl b,v=>v=.bl b
 | .int i,v=>v=.int i
 | .str x,v=>v=.str x
 | .tup ds,v=>∃a xs,v=.ref a/\SqT K H a xs/\DenL K H ds xs
 | .lst ds,v=>∃a xs,v=.ref a/\SqL K H a xs/\DenL K H ds xs
noncomputable def DenL (K:PySem.W.Frag) (H:Hp):List Dv->List V->Prop
 | [],xs=>xs=[]
 | d::ds,xs=>∃x r,xs=x::r/\Den K H d x/\DenL K H ds r
end
mutual
theorem Dv.eqv_iff:∀(a b:Dv),a.eqv b=true <-> a=b
 | .non,b=>by cases b <;> simp[Dv.eqv]
 | .bl x,b=>by cases b <;> simp[Dv.eqv]
 | .int x,b=>by cases b <;> simp[Dv.eqv]
 | .str x,b=>by cases b <;> simp[Dv.eqv]
 | .tup l,b=>by
  cases b with
  | tup m=>simp only[Dv.eqv,Dv.tup.injEq];exact zAx l m
  | _=>simp[Dv.eqv]
 | .lst l,b=>by
  cases b with
  | lst m=>simp only[Dv.eqv,Dv.lst.injEq];exact zAx l m
  | _=>simp[Dv.eqv]
theorem zAx:∀(a b:List Dv),eqvL a b=true <-> a=b
 | [],b=>by cases b <;> simp[eqvL]
 | x::r,b=>by
  cases b with
  | nil=>simp[eqvL]
  | cons y t=>simp only[eqvL,xg,List.cons.injEq,Dv.eqv_iff x y,zAx r t]
end
mutual
theorem Den.up {K:PySem.W.Frag}{H H':Hp}(ht:∀a xs,SqT K H a xs->SqT K H' a xs) (hl:∀a xs,SqL K H a xs->SqL K H' a xs):∀(d:Dv) (v:V),Den K H d v->Den K H' d v
 | .non,_,h=>h
 | .bl _,_,h=>h
 | .int _,_,h=>h
 | .str _,_,h=>h
 | .tup ds,v,⟨a,xs,e,q,r⟩=>⟨a,xs,e,ht _ _ q,DenL.up ht hl ds xs r⟩
 | .lst ds,v,⟨a,xs,e,q,r⟩=>⟨a,xs,e,hl _ _ q,DenL.up ht hl ds xs r⟩
theorem DenL.up {K:PySem.W.Frag}{H H':Hp}(ht:∀a xs,SqT K H a xs->SqT K H' a xs) (hl:∀a xs,SqL K H a xs->SqL K H' a xs):∀(ds:List Dv) (xs:List V),DenL K H ds xs->DenL K H' ds xs
 | [],_,h=>h
 | d::ds,xs,⟨x,r,e,h1,h2⟩=>⟨x,r,e,Den.up ht hl d x h1,DenL.up ht hl ds r h2⟩
end
section
variable {X:Cx}{pins:List (Addr × Obj)}{σ:St}{H:Hp}{s:Shared}
mutual
theorem Den.inj (I:Inv X pins σ H s):∀(d e:Dv) (v:V),Den X.K H d v->Den X.K H e v->d.cmp e=true->d=e
 | .non,e,v,h,h',c=>by cases e <;> simp[Dv.cmp]at c;rfl
 | .bl x,e,v,h,h',c=>by
  cases e <;> simp[Dv.cmp]at c
  have:=Eq.trans (Eq.symm (h)) (h')
  cases this;rfl
 | .int x,e,v,h,h',c=>by
  cases e <;> simp[Dv.cmp]at c
  have:=Eq.trans (Eq.symm (h)) (h')
  cases this;rfl
 | .str x,e,v,h,h',c=>by
  cases e <;> simp[Dv.cmp]at c
  have:=Eq.trans (Eq.symm (h)) (h')
  cases this;rfl
 | .tup l,e,v,h,h',c=>by
  cases e with
  | tup m=>
   obtain⟨a,xs,e1,q1,r1⟩:=h
   obtain⟨b,ys,e2,q2,r2⟩:=h'
   have e3:=Eq.trans (Eq.symm e1) e2
   cases e3
   have e4:=I.tuple_inj q1 q2
   subst e4
   rw[DenL.inj I l m xs r1 r2 (by simpa[Dv.cmp]using c)]
  | _=>simp[Dv.cmp]at c
 | .lst l,e,v,h,h',c=>by
  cases e with
  | lst m=>
   obtain⟨a,xs,e1,q1,r1⟩:=h
   obtain⟨b,ys,e2,q2,r2⟩:=h'
   have e3:=Eq.trans (Eq.symm e1) e2
   cases e3
   have e4:=I.list_inj q1 q2
   subst e4
   rw[DenL.inj I l m xs r1 r2 (by simpa[Dv.cmp]using c)]
  | _=>simp[Dv.cmp]at c
theorem DenL.inj (I:Inv X pins σ H s):∀(ds es:List Dv) (xs:List V),DenL X.K H ds xs->DenL X.K H es xs->cmpL ds es=true->ds=es
 | [],es,xs,h,h',c=>by
  cases es with
  | nil=>rfl
  | cons e es=>
   obtain⟨x,r,e1,_⟩:=h'
   rw[show xs=[]from h]at e1
   cases e1
 | d::ds,es,xs,h,h',c=>by
  cases es with
  | nil=>
   obtain⟨x,r,e1,_⟩:=h
   rw[show xs=[]from h']at e1
   cases e1
  | cons e es=>
   obtain⟨x,r,e1,h1,h2⟩:=h
   obtain⟨y,t,e2,h3,h4⟩:=h'
   have e3:=Eq.trans (Eq.symm e1) e2
   cases e3
   simp only[cmpL,xg]at c
   rw[Den.inj I d e x h1 h3 c.1,DenL.inj I ds es r h2 h4 c.2]
end
theorem DenL.len {K:PySem.W.Frag}{H:Hp}:∀{ds:List Dv}{xs:List V},DenL K H ds xs->ds.length=xs.length
 | [],_,h=>by rw[show _=[]from h];rfl
 | d::ds,xs,⟨x,r,e,_,h⟩=>by rw[e,xH,xH,DenL.len h]
theorem DenL.get {K:PySem.W.Frag}{H:Hp}:∀{ds:List Dv}{xs:List V}{j:Nat}{d:Dv}{x:V},DenL K H ds xs->ds[j]?=some d->xs[j]?=some x->Den K H d x
 | [],_,_,_,_,_,e,_=>by simp at e
 | d::ds,xs,0,d',x',⟨x,r,e,h1,_⟩,e1,e2=>by
  subst e
  simp at e1 e2
  subst e1 e2
  exact h1
 | d::ds,xs,j+1,d',x',⟨x,r,e,_,h2⟩,e1,e2=>by
  subst e
  exact DenL.get (j:=j) h2 (by simpa using e1) (by simpa using e2)
theorem zC2:∀{ds es:List Dv}{j:Nat}{d e:Dv},cmpL ds es=true->ds[j]?=some d->es[j]?=some e->d.cmp e=true
 | [],_,_,_,_,_,h,_=>by simp at h
 | _::_,[],_,_,_,_,_,h=>by simp at h
 | a::r,b::t,0,d,e,c,h1,h2=>by
  simp at h1 h2
  subst h1 h2
  simp only[cmpL,xg]at c
  exact c.1
 | a::r,b::t,j+1,d,e,c,h1,h2=>by
  simp only[cmpL,xg]at c
  exact zC2 (j:=j) c.2 (by simpa using h1) (by simpa using h2)
theorem zC1:∀{ds:List Dv}{j:Nat}{d:Dv},ds[j]?=some d->d.dep<=depL ds
 | [],_,_,h=>by simp at h
 | a::r,0,d,h=>by simp at h;subst h;simp only[depL];lia
 | a::r,j+1,d,h=>by
  have:=zC1 (by simpa using h)
  simp only[depL];lia
noncomputable def zBq (ds es:List Dv) (j:Nat):Bool:=match ds[j]?,es[j]? with
 | some d,some e=>d.eqv e
 | _,_=>true
theorem zAy:∀(ds es:List Dv),((List.range (min ds.length es.length)).all (zBq ds es) && ds.length == es.length)=eqvL ds es
 | [],[]=>rfl
 | [],e::es=>by simp[eqvL]
 | d::ds,[]=>by simp[eqvL]
 | d::ds,e::es=>by
  have ih:=zAy ds es
  have h1:min (d::ds).length (e::es).length=min ds.length es.length+1:=by simp only[xH];lia
  have hf:((List.range (min ds.length es.length)).map Nat.succ).all (zBq (d::ds) (e::es))=(List.range (min ds.length es.length)).all (zBq ds es):=by
   rw[List.all_map]
   rfl
  have h0:zBq (d::ds) (e::es) 0=d.eqv e:=rfl
  have h2:((d::ds).length == (e::es).length)=(ds.length == es.length):=by simp
  rw[h1,List.range_succ_eq_map,vc,hf,h0,h2,Bool.and_assoc,ih,eqvL]
theorem units_in1 (A:Around):A.in1.units=A.units+1:=rfl
theorem zQl (I:Inv X pins σ H s):∀(n:Nat) (d e:Dv),d.dep<=n->∀(A:Around) (x y:V) (u v:Value),A.units+n<cLine->Den X.K H d x->Den X.K H e y->RelV x u->RelV y v->d.cmp e=true->SeqAt.EqAt A s u v (d.eqv e):=by
 intro n
 induction n with
 | zero=>
  intro d e hd A x y u v hu h1 h2 r1 r2 hc
  cases d with
  | non=>cases e <;> simp[Dv.cmp]at hc;rw[show x=.non from h1]at r1;rw[show y=.non from h2]at r2;cases r1;cases r2;exact SeqAt.EqAt.same _
  | bl a=>cases e with|bl b=>(rw[show x=.bl a from h1]at r1;rw[show y=.bl b from h2]at r2;cases r1;cases r2;exact SeqAt.EqAt.bool_bool a b)|_=>simp[Dv.cmp]at hc
  | int a=>cases e with|int b=>(rw[show x=.int a from h1]at r1;rw[show y=.int b from h2]at r2;obtain⟨t,rfl⟩:=r1;obtain⟨t',rfl⟩:=r2;exact SeqAt.EqAt.int_int a t b t')|_=>simp[Dv.cmp]at hc
  | str a=>cases e with|str b=>(rw[show x=.str a from h1]at r1;rw[show y=.str b from h2]at r2;obtain⟨t,rfl⟩:=r1;obtain⟨t',rfl⟩:=r2;have q:=SeqAt.EqAt.str_str (A:=A) (s:=s) a t b t';rw[Bool.beq_eq_decide_eq]at q;exact q)|_=>simp[Dv.cmp]at hc
  | tup l=>simp[Dv.dep]at hd
  | lst l=>simp[Dv.dep]at hd
 | succ n ih=>
  intro d e hd A x y u v hu h1 h2 r1 r2 hc
  cases d with
  | non=>exact ih .non e (by simp[Dv.dep]) A x y u v (by nofun) h1 h2 r1 r2 hc
  | bl a=>exact ih (.bl a) e (by simp[Dv.dep]) A x y u v (by nofun) h1 h2 r1 r2 hc
  | int a=>exact ih (.int a) e (by simp[Dv.dep]) A x y u v (by nofun) h1 h2 r1 r2 hc
  | str a=>exact ih (.str a) e (by simp[Dv.dep]) A x y u v (by nofun) h1 h2 r1 r2 hc
  | tup l=>
   cases e with
   | tup m=>
    obtain⟨a,xs,ea,qa,ra⟩:=id h1
    obtain⟨b,ys,eb,qb,rb⟩:=id h2
    subst ea eb
    cases r1
    cases r2
    by_cases hab:a=b
    ·subst hab
     have e1:=Den.inj I _ _ _ h1 h2 hc
     rw[(Dv.eqv_iff _ _).mpr e1]
     exact SeqAt.EqAt.same _
    ·obtain⟨its,va,ta,_⟩:=I.tuple qa
     obtain⟨jts,vb,tb,_⟩:=I.tuple qb
     have la:=ra.len.trans va.length
     have lb:=rb.len.trans vb.length
     refine SeqAt.EqAt.of_refs hab ?_
     have key:=SeqAt.RcAt.tuples (A:=A) (e:=zBq l m) (ta) (tb) (by nofun) (fun j h1' h2'=>?_)
     ·simp only[xm]at key
      rw[<- la,<- lb,zAy]at key
      exact key
     ·simp only[xm]at h1' h2'
      simp only[List.getElem_toArray]
      have gl:l[j]?=some (l[j]'(by nofun)):=xp (by nofun)
      have gm:m[j]?=some (m[j]'(by nofun)):=xp (by nofun)
      have gx:xs[j]?=some (xs[j]'(by rw[va.length];lia)):=xp _
      have gy:ys[j]?=some (ys[j]'(by rw[vb.length];lia)):=xp _
      obtain⟨u',gu,ru⟩:=va.get gx
      obtain⟨v',gv,rv⟩:=vb.get gy
      rw[xp h1']at gu
      rw[xp h2']at gv
      cases gu
      cases gv
      have e1:zBq l m j=(l[j]'(by nofun)).eqv (m[j]'(by nofun)):=by simp only[zBq,gl,gm]
      rw[e1]
      have hdep:=zC1 gl
      simp only[Dv.dep]at hd
      simp only[Dv.cmp]at hc
      exact ih _ _ (by nofun) A.in1 _ _ _ _ (by rw[units_in1];lia) (ra.get gl gx) (rb.get gm gy) ru rv (zC2 hc gl gm)
   | _=>simp[Dv.cmp]at hc
  | lst l=>
   cases e with
   | lst m=>
    obtain⟨a,xs,ea,qa,ra⟩:=id h1
    obtain⟨b,ys,eb,qb,rb⟩:=id h2
    subst ea eb
    cases r1
    cases r2
    by_cases hab:a=b
    ·subst hab
     have e1:=Den.inj I _ _ _ h1 h2 hc
     rw[(Dv.eqv_iff _ _).mpr e1]
     exact SeqAt.EqAt.same _
    ·obtain⟨its,va,ta,_⟩:=I.list qa
     obtain⟨jts,vb,tb,_⟩:=I.list qb
     have la:=ra.len.trans va.length
     have lb:=rb.len.trans vb.length
     refine SeqAt.EqAt.of_refs hab ?_
     by_cases hsz:its.length=jts.length
     ·have key:=SeqAt.RcAt.lists (A:=A) (e:=zBq l m) ta.isList tb.isList (by simpa using hsz) (by nofun) (fun j h1' h2'=>?_)
      ·simp only[xm]at key
       have e2:=zAy l m
       rw[la,lb,hsz,Nat.min_self,vA,Bool.and_true]at e2
       rw[hsz,e2]at key
       exact key
      ·simp only[xm]at h1' h2'
       simp only[List.getElem_toArray]
       have gl:l[j]?=some (l[j]'(by nofun)):=xp (by nofun)
       have gm:m[j]?=some (m[j]'(by nofun)):=xp (by nofun)
       have gx:xs[j]?=some (xs[j]'(by rw[va.length];lia)):=xp _
       have gy:ys[j]?=some (ys[j]'(by rw[vb.length];lia)):=xp _
       obtain⟨u',gu,ru⟩:=va.get gx
       obtain⟨v',gv,rv⟩:=vb.get gy
       rw[xp h1']at gu
       rw[xp h2']at gv
       cases gu
       cases gv
       have e1:zBq l m j=(l[j]'(by nofun)).eqv (m[j]'(by nofun)):=by simp only[zBq,gl,gm]
       rw[e1]
       have hdep:=zC1 gl
       simp only[Dv.dep]at hd
       simp only[Dv.cmp]at hc
       exact ih _ _ (by nofun) A.in1 _ _ _ _ (by rw[units_in1];lia) (ra.get gl gx) (rb.get gm gy) ru rv (zC2 hc gl gm)
     ·have e2:(Dv.lst l).eqv (.lst m)=false:=by
       rw[vB]
       intro z
       have z':=(Dv.eqv_iff _ _).mp z
       cases z'
       lia
      rw[e2]
      exact SeqAt.RcAt.lists_lengths ta.isList tb.isList (by simpa using hsz) (by nofun)
   | _=>simp[Dv.cmp]at hc
theorem zDe (I:Inv X pins σ H s) {l m:List Dv}{xs ys:List V}{its jts:List Value}{A:Around}(hd:depL l<=60) (hu:A.units+64<cLine) (ra:DenL X.K H l xs) (rb:DenL X.K H m ys) (va:Vals xs its) (vb:Vals ys jts) (hc:cmpL l m=true)
  (j:Nat) (h1':j<its.toArray.size) (h2':j<jts.toArray.size):SeqAt.EqAt A.in1 s its.toArray[j] jts.toArray[j] (zBq l m j):=by
 simp only[xm]at h1' h2'
 simp only[List.getElem_toArray]
 have la:=ra.len.trans va.length
 have lb:=rb.len.trans vb.length
 have gl:l[j]?=some (l[j]'(by nofun)):=xp (by nofun)
 have gm:m[j]?=some (m[j]'(by nofun)):=xp (by nofun)
 have gx:xs[j]?=some (xs[j]'(by rw[va.length];lia)):=xp _
 have gy:ys[j]?=some (ys[j]'(by rw[vb.length];lia)):=xp _
 obtain⟨u',gu,ru⟩:=va.get gx
 obtain⟨v',gv,rv⟩:=vb.get gy
 rw[xp h1']at gu
 rw[xp h2']at gv
 cases gu
 cases gv
 have e1:zBq l m j=(l[j]'(by nofun)).eqv (m[j]'(by nofun)):=by simp only[zBq,gl,gm]
 rw[e1]
 have hdep:=zC1 gl
 exact zQl I 60 _ _ (by nofun) A.in1 _ _ _ _ (by rw[units_in1];lia) (ra.get gl gx) (rb.get gm gy) ru rv (zC2 hc gl gm)
noncomputable def rEqD (K:PySem.W.Frag) (neg:Bool):R2:=fun x y H Q=>(∃l m,Den K H (.tup l) x/\Den K H (.tup m) y/\cmpL l m=true/\depL l<=60/\Q (.bl (if neg then !eqvL l m else eqvL l m)) H) \/
 ∃l m,Den K H (.lst l) x/\Den K H (.lst m) y/\cmpL l m=true/\depL l<=60/\Q (.bl (if neg then !eqvL l m else eqvL l m)) H
theorem zLa (hu:X.A.units+64<cLine):OpR X (compareOp .Eq) (rEqD X.K false):=by
 intro pins s σ H x y v u Q I rx ry h
 rcases h with⟨l,m,⟨a,xs,ea,qa,ra⟩,⟨b,ys,eb,qb,rb⟩,hc,hd,q⟩|⟨l,m,⟨a,xs,ea,qa,ra⟩,⟨b,ys,eb,qb,rb⟩,hc,hd,q⟩
 ·subst ea eb
  cases rx
  cases ry
  obtain⟨its,va,ta,_⟩:=I.tuple qa
  obtain⟨jts,vb,tb,_⟩:=I.tuple qb
  have la:=ra.len.trans va.length
  have lb:=rb.len.trans vb.length
  refine SeqAt.RcAt.tuples (ta) (tb) (by nofun) (fun j h1 h2=>zDe I hd hu ra rb va vb hc j h1 h2) _ _ _ _ ?_
  simp only[xm]
  rw[<- la,<- lb,zAy]
  exact⟨.bl _,H,I,rfl,q⟩
 ·subst ea eb
  cases rx
  cases ry
  obtain⟨its,va,ta,_⟩:=I.list qa
  obtain⟨jts,vb,tb,_⟩:=I.list qb
  have la:=ra.len.trans va.length
  have lb:=rb.len.trans vb.length
  by_cases hsz:its.length=jts.length
  ·refine SeqAt.RcAt.lists ta.isList tb.isList (by simpa using hsz) (by nofun) (fun j h1 h2=>zDe I hd hu ra rb va vb hc j h1 h2) _ _ _ _ ?_
   have e2:=zAy l m
   rw[la,lb,hsz,Nat.min_self,vA,Bool.and_true]at e2
   simp only[xm]
   rw[hsz,e2]
   exact⟨.bl _,H,I,rfl,q⟩
  ·refine SeqAt.RcAt.lists_lengths ta.isList tb.isList (by simpa using hsz) (by nofun) _ _ _ _ ?_
   have e2:eqvL l m=false:=by
    rw[vB]
    intro z
    have z':=(zAx _ _).mp z
    subst z'
    lia
   rw[e2]at q
   exact⟨.bl _,H,I,rfl,q⟩
theorem zL8 (hu:X.A.units+64<cLine):OpR X (compareOp .NotEq) (rEqD X.K true):=by
 intro pins s σ H x y v u Q I rx ry h
 rcases h with⟨l,m,⟨a,xs,ea,qa,ra⟩,⟨b,ys,eb,qb,rb⟩,hc,hd,q⟩|⟨l,m,⟨a,xs,ea,qa,ra⟩,⟨b,ys,eb,qb,rb⟩,hc,hd,q⟩
 ·subst ea eb
  cases rx
  cases ry
  obtain⟨its,va,ta,_⟩:=I.tuple qa
  obtain⟨jts,vb,tb,_⟩:=I.tuple qb
  have la:=ra.len.trans va.length
  have lb:=rb.len.trans vb.length
  refine SeqAt.RcNeAt.tuples (ta) (tb) (by nofun) (fun j h1 h2=>zDe I hd hu ra rb va vb hc j h1 h2) _ _ _ _ ?_
  simp only[xm]
  rw[<- la,<- lb,zAy]
  exact⟨.bl _,H,I,rfl,q⟩
 ·subst ea eb
  cases rx
  cases ry
  obtain⟨its,va,ta,_⟩:=I.list qa
  obtain⟨jts,vb,tb,_⟩:=I.list qb
  have la:=ra.len.trans va.length
  have lb:=rb.len.trans vb.length
  by_cases hsz:its.length=jts.length
  ·refine SeqAt.RcNeAt.lists ta.isList tb.isList (by simpa using hsz) (by nofun) (fun j h1 h2=>zDe I hd hu ra rb va vb hc j h1 h2) _ _ _ _ ?_
   have e2:=zAy l m
   rw[la,lb,hsz,Nat.min_self,vA,Bool.and_true]at e2
   simp only[xm]
   rw[hsz,e2]
   exact⟨.bl _,H,I,rfl,q⟩
  ·refine SeqAt.RcNeAt.lists_lengths ta.isList tb.isList (by simpa using hsz) (by nofun) _ _ _ _ ?_
   have e2:eqvL l m=false:=by
    rw[vB]
    intro z
    have z':=(zAx _ _).mp z
    subst z'
    lia
   rw[e2]at q
   exact⟨.bl _,H,I,rfl,q⟩
noncomputable def gLst (K:PySem.W.Frag) (n:Nat) (t:TGs):TG:=fun v σ H Q=>∃a xs,v=.ref a/\SqL K H a xs/\xs.length=n/\t xs σ H Q
theorem zFn {prog:Program}{w:World}{A:Around}{E:Value->Shared->Prop}{it t:Addr}{items:Array Value}(hne:t≠it):∀(n i:Nat) (s:Shared) (Q:List Value->Shared->Prop),s.heap.IsListIter it t i->s.heap.IsList t items->i+n<=items.size->
  (∀h',h'.IsListIter it t (i+n)->Heap.SameBut it s.heap h'->Q ((items.toList.drop i).take n) { s with heap:=h' })->wpAny (model prog w) A (draw (.ref it) n) Q E s
 | 0,i,s,Q,hit,_,_,hQ=>by
  show wpAny _ _ (pure []) Q E s
  exact xf (by simpa using hQ s.heap hit (Heap.SameBut.refl ..))
 | n+1,i,s,Q,hit,ht,hle,hQ=>by
  have hlt:i<items.size:=by nofun
  show wpAny _ _ (pyNext (.ref it) >>= _) Q E s
  refine xa (wpAny_pyNext_list_item hit ht (x:=items[i]) (by simp[hlt]) fun h₁ hit₁ hs₁=>?_)
  refine xa (xx (zFn hne n (i+1) { s with heap:=h₁ } _ hit₁ (ht.at fun o e=>hs₁.extBut t o hne e) (by nofun) fun h₂ hit₂ hs₂=>xf ?_))
  have hd:items.toList.drop i=items[i]::items.toList.drop (i+1):=by simp[List.drop_eq_getElem_cons,hlt]
  have:=hQ h₂ (by rw[show i+(n+1)=i+1+n by nofun];exact hit₂) (hs₁.trans hs₂)
  rw[hd,List.take_succ_cons]at this
  exact this
theorem zC5 {prog:Program}{w:World}{A:Around}{E:Value->Shared->Prop}{s:Shared}{t:Addr}{items:Array Value}{Q:List Value->Shared->Prop}(hh:A.handled=none) (ht:s.heap.IsList t items)
  (hQ:∀h',Heap.ExtBut s.heap.objs.size s.heap h'->Q items.toList { s with heap:=h' }):wpAny (model prog w) A (unpackItems (.ref t) items.size none) Q E s:=by
 have hlt:t≠s.heap.objs.size:=by obtain⟨o,ho,_⟩:=ht;exact xo (xi ho)
 unfold unpackItems
 refine xa ?_
 ·unfold notIterableAtAll
  refine xa (wpAny_specialOf ht.typeIs slot_list_iter.lookup ?_)
  refine xf ?_
  simp only[vk,if_false]
  refine xa (xx (wpAny_pyIter_list ht ?_))
  refine xa (xx (zFn hlt items.size 0 _ _ ⟨_,xv _ rfl,rfl,rfl⟩ (ht.at fun o e=>xl _ e) (by nofun) fun h₁ hit₁ hs₁=>?_))
  have hall:List.take items.size (List.drop 0 items.toList)=items.toList:=by
   rw[List.drop_zero];exact List.take_of_length_le (by simp)
  rw[hall]
  rw[xc (by simp)]
  have ht₁:=ht.at fun o e=>hs₁.extBut t o hlt (xl _ e)
  refine xa (xx (wpAny_pyNext_list_end hh hit₁ ht₁ (by simp) fun h₂ he₂=>?_))
  simp only[Option.isSome_none,vk,if_false]
  refine xf (hQ h₂ fun b o hb e=>he₂ b o hb (hs₁.extBut b o hb (xl _ e)))
theorem zPk {es:List Expr}{k:Nat}{t:TGs}{n:Nat}{pos:Pos}(hc:X.calm=true) (h:PGs X es t)
  (hn:(assignEach es X.env).length=n:=by rfl) (hst:(assignEach es X.env).findIdx? (·.1)=none:=by rfl):PG X (.Tuple es k pos) (gLst X.K n t):=by
 intro pins s σ H v u Q I r hw
 obtain⟨a,xs,e1,hq,hl,hw⟩:=hw
 subst e1
 cases r
 obtain⟨its,rv,ht,hz⟩:=I.list hq
 rw[assign_Tuple]
 refine xa (vf ?_)
 unfold unpack
 rw[hst,hn,show n=its.toArray.size by rw[xm,<- rv.length,hl]]
 refine xa (xx (zC5 (I.ok.hd hc) ht.isList fun h' hx=>?_))
 have I1:=I.kept (t':=s.toks) fun b o e=>hx b o (xo (xi e)) e
 exact h pins _ σ H xs _ Q I1 (by simpa using rv) hw
end
end L2
namespace L2
open PySem PySem.Spec PyProof.Rows
structure Cal (P:Program) (w:World) (K:PySem.W.Frag) (mg:Str->Option Value) (base:Heap) (x:Str) (k:Nat) (ps:List Str) (sp:Sp):Prop where
 ex:∃f fd,FnOk P w K mg base CX0 k f fd ps sp/\mg x=some (.ref f)/\PySem.W.keepIn K (.ref f)=true/\Binds K fd ps []
section
variable {X:Cx}{x:Str}{k:Nat}{ps:List Str}{sp:Sp}{e:Expr}{es:List Expr}{t:TA}{p pos:Pos}
theorem zPt (C:Cal X.prog X.w X.K X.mg X.base x k ps sp) (hr:Room k X.A) (hg:Gl X x) (ha:PA X (e::es) t) (hdb:(x == ("__debug__":Str))=false:=by decide)
  (hs:starEach (e::es) X.env=(false,eval e X.env)::starEach es X.env:=by rfl) (hpl:(backTo pos (starEach es X.env)).any (·.1)=false:=by rfl):
  PE X (.Call (.Name x p) (e::es) [] pos) (zJ8 sp [] E0 t):=by
 obtain⟨f,fd,F,hm,hk,hb⟩:=C.ex
 exact zMy F hr hg hm hk hb .nil pass0 ha hdb hs hpl
end
end L2
namespace L2
open PySem PySem.Spec PyProof.Rows
noncomputable def nst:Expr->Bool
 | .Starred ..=>false
 | _=>true
theorem zAr {e:Expr}{es:List Expr}{env:Env}(h:nst e=true):starEach (e::es) env=(false,eval e env)::starEach es env:=by
 cases e <;> first|rfl|cases h
theorem zDj {env:Env}{pos:Pos}:∀{es:List Expr},es.all nst=true->(backTo pos (starEach es env)).any (·.1)=false
 | [],_=>rfl
 | e::es,h=>by
  simp only[vc,xg]at h
  rw[zAr h.1]
  show(false || (backTo pos (starEach es env)).any (·.1))=false
  rw[zDj h.2];rfl
noncomputable def nsl:Expr->Bool
 | .Slice ..=>false
 | _=>true
theorem zJp {b:Expr}(h:nsl b=true):zJ2 b:=fun o i=>by cases b <;> first|rfl|cases h
noncomputable def nco:Expr->Bool
 | .ListComp ..|.SetComp ..|.DictComp ..=>false
 | _=>true
theorem zD6 {e:Expr}{tg:Option Expr}{l:Nat}{env:Env}(h:nco e=true):swapsWith e tg l env=pure false:=by cases e <;> first|rfl|cases h
theorem zM1 {e:Expr}{tg:Expr}{l:Nat}{env:Env}(h:nco e=true):swapsWithSole [tg] e l env=pure false:=zD6 h
theorem zJ9 {e:Expr}{es:List Expr}{k:Nat}{p:Pos}{l:Nat}{env:Env}:swapsWithSole [.Tuple es k p] e l env=pure false:=by
 show swapsWith e (some (.Tuple es k p)) l env=pure false
 cases e <;> rfl
theorem zCj {tg:Expr}{es:List Expr}{env:Env}(h:nst tg=true):(assignEach (tg::es) env).map (·.2)=assign tg env::(assignEach es env).map (·.2):=by cases tg <;> first|rfl|cases h
theorem zAe {env:Env}:∀{es:List Expr},es.all nst=true->(assignEach es env).length=es.length/\(assignEach es env).findIdx? (·.1)=none
 | [],_=>⟨rfl,rfl⟩
 | e::es,h=>by
  simp only[vc,xg]at h
  obtain⟨h1,h2⟩:=zAe h.2
  have e1:assignEach (e::es) env=(false,assign e env)::assignEach es env:=by
   have:=h.1
   cases e <;> first|rfl|cases this
  rw[e1]
  refine⟨by rw[xH,h1,xH],?_⟩
  rw[List.findIdx?_cons]
  simp[h2]
noncomputable def nse:Expr->Bool
 | .Set ..=>false
 | _=>true
theorem zD8 {e:Expr}{env:Env}(h:nse e=true) (x:Value):foldedSetIterable e env x=pure x:=by cases e <;> first|rfl|cases h
noncomputable def nba:Expr->Bool
 | .Call ..=>false
 | _=>true
theorem zCi {o:Expr}{m:Str}{env:Env}(h:nba o=true):attributeBase o m env (eval o env)=eval o env:=by cases o <;> first|rfl|cases h
section
variable {X:Cx}{e o i a b:Expr}{es:List Expr}{te ta tb to ti:TE}{t:TA}{p pos cpos apos:Pos}
theorem qa (ha:PE X e te) (hr:PA X es t) (h:nst e=true:=by rfl):PA X (e::es) (zLz te t):=zN0 ha hr (zAr h)
theorem qix {r:R2}(hr:IxR X r) (ha:PE X a ta) (hb:PE X b tb) (h:nsl b=true:=by rfl):PE X (.Subscript a b pos) (tOp r ta tb):=zRy hr ha hb (zJp h)
theorem qcal {x:Str}{k:Nat}{ps:List Str}{sp:Sp}(C:Cal X.prog X.w X.K X.mg X.base x k ps sp) (hr:Room k X.A) (hg:Gl X x) (ha:PA X (e::es) t) (hdb:(x == ("__debug__":Str))=false:=by decide)
  (h:(e::es).all nst=true:=by rfl):PE X (.Call (.Name x p) (e::es) [] pos) (zJ8 sp [] E0 t):=by
 simp only[vc,xg]at h
 exact zPt C hr hg ha hdb (zAr h.1) (zDj h.2)
theorem zP8 {x:Str}{id:String}{r:List V->Hp->VK->Prop}(hc:zBl X (.builtin id) r) (hg:Gl X x) (hm:X.mg x=none) (hv:bootBuiltins x=some (.builtin id)) (ha:PA X (e::es) t) (hn:x≠"__name__":=by decide) (hdb:(x == ("__debug__":Str))=false:=by decide)
  (h:(e::es).all nst=true:=by rfl):PE X (.Call (.Name x p) (e::es) [] pos) (tCB r t):=by
 simp only[vc,xg]at h
 exact zK0 hc hg hm hv ha hn hdb (zAr h.1) (zDj h.2)
theorem qset {j:Nat}{x:Str}{pos':Pos}(hN:X.N.Nodup) (hi:X.N[j]?=some x) (hx:Loc X.env.scope x) (he:PE X e te) (hf:X.fn x=true\/X.env.scope.names.lookup x=some .local:=by first|exact .inl rfl|exact .inr rfl|assumption) (h:nco e=true:=by rfl):
  PS X (.Assign [.Name x pos'] e pos) (tAsg te (gName j)):=zPe hN hi hx he (zD6 h) hf
theorem qgs {tg:Expr}{ts:List Expr}{g:TG}{gs:TGs}(h1:PG X tg g) (h2:PGs X ts gs) (h:nst tg=true:=by rfl):PGs X (tg::ts) (zNw g gs):=zJt h1 h2 (zCj h)
theorem qtup {ts:List Expr}{k n:Nat}{gs:TGs}(hc:X.calm=true) (h:PGs X ts gs) (hn:ts.length=n:=by rfl) (h1:ts.all nst=true:=by rfl):PG X (.Tuple ts k pos) (gTup X.K n gs):=zPl hc h ((zAe h1).1.trans hn) (zAe h1).2
theorem qunl {ts:List Expr}{k n:Nat}{gs:TGs}(hc:X.calm=true) (h:PGs X ts gs) (hn:ts.length=n:=by rfl) (h1:ts.all nst=true:=by rfl):PG X (.Tuple ts k pos) (gLst X.K n gs):=zPk hc h ((zAe h1).1.trans hn) (zAe h1).2
theorem qfor {tg iter:Expr}{body:List Stmt}{wi:TI}{g:TG}{tb:TS}(hp:PassesOwn (model X.prog X.w) X.A X.env X.xe) (hc:X.calm=true) (hi:PI X tg iter wi) (hg:PG X tg g) (hb:PSs X body tb) (h:nse iter=true:=by rfl):
  PS X (.For tg iter body [] pos) (tFor wi g tb):=zPi hp hc hi hg hb (zD8 h)
theorem qexpr (he:PE X e te) (h:nco e=true:=by rfl):PS X (.Expr e pos) (zLy te):=zMk he (zD6 h)
theorem qlcomp {own fre:List Str}{ix:List Nat}{scope:Scope}{tg elt iter:Expr}{ifs:List Expr}{wi:TI}{g:TG}{tt:TT}(hc:X.calm=true) (S:CompScope X own fre ix scope) (hi:PI X tg iter wi)
  (hg:∀cl C s H fp,PG (zA6 X (own++fre) scope cl C s H fp) tg g) (ht:∀cl C s H fp,PIfs (zA6 X (own++fre) scope cl C s H fp) ifs tt) (he:∀cl C s H fp,PE (zA6 X (own++fre) scope cl C s H fp) elt te)
  (h:nse iter=true:=by rfl):PE X (.ListComp elt [⟨tg,iter,ifs,0⟩] scope pos) (zEg own ix wi g tt te):=zJw hc S hi hg ht he (zD8 h)
theorem qsetc {own fre:List Str}{ix:List Nat}{scope:Scope}{j:Nat}{x:Str}{pos':Pos}{tg elt iter:Expr}{ifs:List Expr}{wi:TI}{g:TG}{tt:TT}(hN:X.N.Nodup) (hix:X.N[j]?=some x) (hx:Loc X.env.scope x)
  (hc:X.calm=true) (S:CompScope X own fre ix scope) (hi:PI X tg iter wi)
  (hg:∀cl C s H fp,PG (zA6 X (own++fre) scope cl C s H fp) tg g) (ht:∀cl C s H fp,PIfs (zA6 X (own++fre) scope cl C s H fp) ifs tt) (he:∀cl C s H fp,PE (zA6 X (own++fre) scope cl C s H fp) elt te)
  (hsw:swapsWith (.ListComp elt [⟨tg,iter,ifs,0⟩] scope cpos) (some (.Name x pos')) pos.line X.env=pure true:=by rfl) (h:nse iter=true:=by rfl) (hf:X.fn x=true\/X.env.scope.names.lookup x=some .local:=by first|exact .inl rfl|exact .inr rfl|assumption):
  PS X (.Assign [.Name x pos'] (.ListComp elt [⟨tg,iter,ifs,0⟩] scope cpos) pos) (tAsg (zEg own ix wi g tt te) (gName j)):=zMi hN hix hx hc S hi hg ht he hsw (zD8 h) hf
theorem qrange1 {tg:Expr}{ta:TA}(hg:Gl X "range") (hm:X.mg "range"=none) (ha:PA X [a] ta) (h:nst a=true:=by rfl):PI X tg (.Call (.Name "range" p) [a] [] pos) (zNt ta):=zHe hg hm ha (zAr h)
theorem qlistrev {p2 pos2:Pos}(hc:X.calm=true) (he:PE X e te) (hgl:Gl X "list") (hml:X.mg "list"=none) (hgr:Gl X "reversed") (hmr:X.mg "reversed"=none) (h:nst e=true:=by rfl):
  PE X (.Call (.Name "list" p) [.Call (.Name "reversed" p2) [e] [] pos2] [] pos) (zD5 X.K te):=zG0 hc he hgl hml hgr hmr (zAr h) rfl
theorem qbm0 {T name id:_}{r:V->List V->Hp->VK->Prop}(pa:PlainAttrs T) (slot:Slot T name id) (hty:typeOf (.builtin id)=pure (.type "method_descriptor")) (hm:MtR X id r) (ho:PE X o to) (h:nba o=true:=by rfl) (hline:(apos.endLine == cpos.line)=true:=by rfl):
  PE X (.Call (.Attribute o name apos) [] [] cpos) (tBM0 X.K T r to):=zPu pa slot hty hm ho (zCi h) hline
theorem qpar {x y:Str}{px py pt pt2:Pos}{kt k2 i j:Nat}{ta:TA}(hc:X.calm=true) (hN:X.N.Nodup) (hi:X.N[i]?=some x) (hj:X.N[j]?=some y) (hij:i≠j)
  (hx:X.env.scope.names.lookup x=some .local) (hy:X.env.scope.names.lookup y=some .local) (ha:PA X [a,b] ta)
  (hw:swappedStores [.Tuple [.Name x px,.Name y py] kt pt] (.Tuple [a,b] k2 pt2) X.env=pure (some [x,y])):
  PS X (.Assign [.Tuple [.Name x px,.Name y py] kt pt] (.Tuple [a,b] k2 pt2) pos) (tPar i j ta):=zPg hc hN hi hj hij hx hy ha hw zJ9
end
end L2
namespace L2
open PySem PySem.Spec PyProof.Rows
structure SE (X:Cx) (e:Expr) (t:TE):Prop where h:PE X e t
structure ST (X:Cx) (e:Expr) (t:TT):Prop where h:PT X e t
structure SW (X:Cx) (e:Expr) (t:TT):Prop where h:PW X e t
structure SA (X:Cx) (es:List Expr) (t:TA):Prop where h:PA X es t
structure SS (X:Cx) (st:Stmt) (t:TS):Prop where h:PS X st t
structure SSs (X:Cx) (st:List Stmt) (t:TS):Prop where h:PSs X st t
structure SG (X:Cx) (e:Expr) (t:TG):Prop where h:PG X e t
structure SGs (X:Cx) (es:List Expr) (t:TGs):Prop where h:PGs X es t
structure SI (X:Cx) (tg e:Expr) (t:TI):Prop where h:PI X tg e t
structure SIfs (X:Cx) (es:List Expr) (t:TT):Prop where h:PIfs X es t
structure SO (X:Cx) (e:Option Expr) (t:TO):Prop where h:PO X e t
structure SPs (X:Cx) (pos:Pos) (ks:List (Option Expr)) (vs:List Expr) (t:List (TE × TE)):Prop where h:PPs X pos ks vs t
section
variable {X:Cx}{e o i a b c:Expr}{es:List Expr}{te ta tb tc to ti tv td ty:TE}{t:TA}{p pos cpos apos:Pos}{tA tB':TT}
theorem pv' (i:Nat) {x:Str}{pos:Pos}(hN:X.N[i]?=some x:=by rfl) (hv:Vis X.env.scope x:=by first|exact Or.inl rfl|exact Or.inr (Or.inl rfl)|exact Or.inr (Or.inr rfl)) (hd:(x == ("__debug__":Str))=false:=by decide)
  (hcd:(x == ("__classdict__":Str))=false:=by decide):SE X (.Name x pos) (tVar i):=⟨pv i hN hv hd hcd⟩
theorem zMu {i:Int}{j:Nat}:SE X (.Constant (.int i) j pos) (tC (.int i)):=⟨zPs⟩
theorem zPw {b:Bool}{j:Nat}:SE X (.Constant (.bool b) j pos) (tC (.bl b)):=⟨zS0⟩
theorem zMs {j:Nat}:SE X (.Constant .none j pos) (tC .non):=⟨zPq⟩
theorem zHf {x:Str}{j:Nat}:SE X (.Constant (.str x) j pos) (tC (.str x)):=⟨zPp⟩
theorem zK1 {x:Str}{v:V}{u:Value}(hg:Gl X x) (hm:X.mg x=none) (hv:bootBuiltins x=some u) (r:RelV v u) (hn:x≠"__name__":=by decide) (hd:(x == ("__debug__":Str))=false:=by decide):SE X (.Name x pos) (tC v):=⟨zMz hg hm hv r hn hd⟩
theorem zL5 {op:Operator}{r:R2}(ho:OpR X (binaryOp op) r) (ha:SE X a ta) (hb:SE X b tb):SE X (.BinOp a op b pos) (tOp r ta tb):=⟨zRx ho ha.h hb.h⟩
theorem zMr {k:Nat}(h:SA X es t):SE X (.Tuple es k pos) (tTup t):=⟨zPo h.h⟩
theorem zMt (h:SA X es t):SE X (.List es pos) (tLst t):=⟨zPr h.h⟩
theorem zJy {keys:List (Option Expr)}{values:List Expr}{trs:List (TE × TE)}(h:SPs X pos keys values trs) (hall:keys.all (·.isSome)=true) (hl:keys.length=values.length) (h0:keys≠[]) (h15:keys.length<=15):SE X (.Dict keys values pos) (zP2 trs):=⟨zMw h.h hall hl h0 h15⟩
theorem zJm:SPs X pos [] [] []:=⟨zMl⟩
theorem zHb {k v:Expr}{ks:List (Option Expr)}{vs:List Expr}{tk:TE}{trs:List (TE × TE)}(hk:SE X k tk) (hv:SE X v tv) (hr:SPs X pos ks vs trs):SPs X pos (some k::ks) (v::vs) ((tk,tv)::trs):=⟨zJn hk.h hv.h hr.h⟩
theorem zHg {r:V->Option Int->Option Int->Hp->VK->Prop}{lo hi:Option Expr}{tl th:TO}{p2:Pos}(hr:SlR X r) (he:SE X e te) (hl:SO X lo tl) (hu:SO X hi th):SE X (.Subscript e (.Slice lo hi none p2) pos) (tSl r te tl th):=⟨zJv hr he.h hl.h hu.h⟩
theorem po_none':SO X none zGv:=⟨zMn⟩
theorem zJo (h:SE X e te):SO X (some e) (zP0 te):=⟨zMm h.h⟩
theorem pa_nil':SA X [] tNil:=⟨zPy⟩
theorem qa' (ha:SE X e te) (hr:SA X es t) (h:nst e=true:=by rfl):SA X (e::es) (zLz te t):=⟨qa ha.h hr.h h⟩
theorem qix' {r:R2}(hr:IxR X r) (ha:SE X a ta) (hb:SE X b tb) (h:nsl b=true:=by rfl):SE X (.Subscript a b pos) (tOp r ta tb):=⟨qix hr ha.h hb.h h⟩
theorem qcal' {x:Str}{k:Nat}{ps:List Str}{sp:Sp}(C:Cal X.prog X.w X.K X.mg X.base x k ps sp) (hr:Room k X.A) (hg:Gl X x) (ha:SA X (e::es) t) (hdb:(x == ("__debug__":Str))=false:=by decide)
  (h:(e::es).all nst=true:=by rfl):SE X (.Call (.Name x p) (e::es) [] pos) (zJ8 sp [] E0 t):=⟨qcal C hr hg ha.h hdb h⟩
theorem zH7 {x:Str}{id:String}{r:List V->Hp->VK->Prop}(hc:zBl X (.builtin id) r) (hg:Gl X x) (hm:X.mg x=none) (hv:bootBuiltins x=some (.builtin id)) (ha:SA X (e::es) t) (hn:x≠"__name__":=by decide) (hdb:(x == ("__debug__":Str))=false:=by decide)
  (h:(e::es).all nst=true:=by rfl):SE X (.Call (.Name x p) (e::es) [] pos) (tCB r t):=⟨zP8 hc hg hm hv ha.h hn hdb h⟩
theorem qlistrev' {p2 pos2:Pos}(hc:X.calm=true) (he:SE X e te) (hgl:Gl X "list") (hml:X.mg "list"=none) (hgr:Gl X "reversed") (hmr:X.mg "reversed"=none) (h:nst e=true:=by rfl):
  SE X (.Call (.Name "list" p) [.Call (.Name "reversed" p2) [e] [] pos2] [] pos) (zD5 X.K te):=⟨qlistrev hc he.h hgl hml hgr hmr h⟩
theorem qbm0' {T name id:_}{r:V->List V->Hp->VK->Prop}(pa:PlainAttrs T) (slot:Slot T name id) (hty:typeOf (.builtin id)=pure (.type "method_descriptor")) (hm:MtR X id r) (ho:SE X o to) (h:nba o=true:=by rfl) (hline:(apos.endLine == cpos.line)=true:=by rfl):
  SE X (.Call (.Attribute o name apos) [] [] cpos) (tBM0 X.K T r to):=⟨qbm0 pa slot hty hm ho.h h hline⟩
theorem zFu {env:Env}{pos:Pos}:∀{es:List Expr},es.all nst=true->(backTo pos (starEach es env)).all (fun x=>!x.1)=true
 | [],_=>rfl
 | e::es,h=>by
  simp only[vc,xg]at h
  rw[zAr h.1]
  show(true && (backTo pos (starEach es env)).all (fun x=>!x.1))=true
  rw[zFu h.2];rfl
theorem zPv {T name id:_}{r:V->List V->Hp->VK->Prop}(pa:PlainAttrs T) (slot:Slot T name id) (hty:typeOf (.builtin id)=pure (.type "method_descriptor")) (hm:MtR X id r) (ho:SE X o to) (ha:SA X (e::es) t) (h:nba o=true:=by rfl) (hs:(e::es).all nst=true:=by rfl)
  (hlen:decide ((e::es).length+0+0<30)=true:=by rfl) (hline:(apos.endLine == cpos.line)=true:=by rfl):SE X (.Call (.Attribute o name apos) (e::es) [] cpos) (tBM X.K T r to t):=by
 have hs':=hs
 simp only[vc,xg]at hs'
 refine⟨zRz pa slot hty hm ho.h ha.h (zCi h) ?_ hline (zAr hs'.1) (zDj hs'.2)⟩
 rw[zFu hs]
 exact hlen
theorem zJz {op:CmpOp}{r:R2}(ho:OpR X (compareOp op) r) (ha:SE X a ta) (hb:SE X b tb) (hm:behindInMarks op b=false):SE X (.Compare a [op] [b] pos) (tOp r ta tb):=⟨zMx ho ha.h hb.h hm⟩
theorem zJj {op:CmpOp}{r:R2}(ho:OpR X (compareOp op) r) (ha:SE X a ta) (hb:SE X b tb) (hm:behindInMarks op b=false):ST X (.Compare a [op] [b] pos) (zOz (tOp r ta tb)):=⟨zMe ho ha.h hb.h hm⟩
theorem zJh (ha:ST X a tA):SW X (.BoolOp .And [a] pos) tA:=⟨zMc ha.h⟩
theorem zMb (ha:ST X a tA):SW X (.BoolOp .Or [a] pos) tA:=⟨zPa ha.h⟩
theorem zMd (ha:ST X a tA) (hb:SW X (.BoolOp .And (b::es) pos) tB'):SW X (.BoolOp .And (a::b::es) pos) (tAnd tA tB'):=⟨zPc ha.h hb.h⟩
theorem zPb (ha:ST X a tA) (hb:SW X (.BoolOp .Or (b::es) pos) tB'):SW X (.BoolOp .Or (a::b::es) pos) (tOr tA tB'):=⟨zRt ha.h hb.h⟩
theorem zP9 (h:SW X e tA):ST X e tA:=⟨h.h.pt⟩
theorem qrange1' {tg:Expr}{ta:TA}(hg:Gl X "range") (hm:X.mg "range"=none) (ha:SA X [a] ta) (h:nst a=true:=by rfl):SI X tg (.Call (.Name "range" p) [a] [] pos) (zNt ta):=⟨qrange1 hg hm ha.h h⟩
theorem zJu {j:Nat}{x:Str}(hN:X.N.Nodup) (hi:X.N[j]?=some x) (hx:Loc X.env.scope x) (hf:X.fn x=true\/X.env.scope.names.lookup x=some .local:=by first|exact .inl rfl|exact .inr rfl|assumption):SG X (.Name x pos) (gName j):=⟨zMq hN hi hx hf⟩
theorem pgs_nil':SGs X [] gNil:=⟨zMo⟩
theorem qgs' {tg:Expr}{ts:List Expr}{g:TG}{gs:TGs}(h1:SG X tg g) (h2:SGs X ts gs) (h:nst tg=true:=by rfl):SGs X (tg::ts) (zNw g gs):=⟨qgs h1.h h2.h h⟩
theorem qtup' {ts:List Expr}{k n:Nat}{gs:TGs}(hc:X.calm=true) (h:SGs X ts gs) (hn:ts.length=n:=by rfl) (h1:ts.all nst=true:=by rfl):SG X (.Tuple ts k pos) (gTup X.K n gs):=⟨qtup hc h.h hn h1⟩
theorem qunl' {ts:List Expr}{k n:Nat}{gs:TGs}(hc:X.calm=true) (h:SGs X ts gs) (hn:ts.length=n:=by rfl) (h1:ts.all nst=true:=by rfl):SG X (.Tuple ts k pos) (gLst X.K n gs):=⟨qunl hc h.h hn h1⟩
theorem zMp {ts:TSet}(ho:SE X o to) (hi:SE X i ti) (hs:PSet X ts) (h:nsl i=true:=by rfl):SG X (.Subscript o i pos) (gSub to ti ts):=by
 refine⟨zPm ho.h hi.h hs fun v=>?_⟩
 cases i <;> first|rfl|cases h
theorem pifs_nil':SIfs X [] tYes:=⟨zJr⟩
theorem zHd (hc:ST X c tA):SIfs X [c] tA:=⟨zJq hc.h⟩
theorem qlcomp' {own fre:List Str}{ix:List Nat}{scope:Scope}{tg elt iter:Expr}{ifs:List Expr}{wi:TI}{g:TG}{tt:TT}(hc:X.calm=true) (S:CompScope X own fre ix scope) (hi:SI X tg iter wi)
  (hg:∀cl C s H fp,SG (zA6 X (own++fre) scope cl C s H fp) tg g) (ht:∀cl C s H fp,SIfs (zA6 X (own++fre) scope cl C s H fp) ifs tt) (he:∀cl C s H fp,SE (zA6 X (own++fre) scope cl C s H fp) elt te)
  (h:nse iter=true:=by rfl):SE X (.ListComp elt [⟨tg,iter,ifs,0⟩] scope pos) (zEg own ix wi g tt te):=⟨qlcomp hc S hi.h (fun _ _ _ _ _=>(hg _ _ _ _ _).h) (fun _ _ _ _ _=>(ht _ _ _ _ _).h) (fun _ _ _ _ _=>(he _ _ _ _ _).h) h⟩
theorem qsetc' {own fre:List Str}{ix:List Nat}{scope:Scope}{j:Nat}{x:Str}{pos':Pos}{tg elt iter:Expr}{ifs:List Expr}{wi:TI}{g:TG}{tt:TT}(hN:X.N.Nodup) (hix:X.N[j]?=some x) (hx:Loc X.env.scope x)
  (hc:X.calm=true) (S:CompScope X own fre ix scope) (hi:SI X tg iter wi)
  (hg:∀cl C s H fp,SG (zA6 X (own++fre) scope cl C s H fp) tg g) (ht:∀cl C s H fp,SIfs (zA6 X (own++fre) scope cl C s H fp) ifs tt) (he:∀cl C s H fp,SE (zA6 X (own++fre) scope cl C s H fp) elt te)
  (hsw:swapsWith (.ListComp elt [⟨tg,iter,ifs,0⟩] scope cpos) (some (.Name x pos')) pos.line X.env=pure true:=by rfl) (h:nse iter=true:=by rfl) (hf:X.fn x=true\/X.env.scope.names.lookup x=some .local:=by first|exact .inl rfl|exact .inr rfl|assumption):
  SS X (.Assign [.Name x pos'] (.ListComp elt [⟨tg,iter,ifs,0⟩] scope cpos) pos) (tAsg (zEg own ix wi g tt te) (gName j)):=⟨qsetc hN hix hx hc S hi.h (fun _ _ _ _ _=>(hg _ _ _ _ _).h) (fun _ _ _ _ _=>(ht _ _ _ _ _).h) (fun _ _ _ _ _=>(he _ _ _ _ _).h) hsw h hf⟩
theorem qset' {j:Nat}{x:Str}{pos':Pos}(hN:X.N.Nodup) (hi:X.N[j]?=some x) (hx:Loc X.env.scope x) (he:SE X e te) (hf:X.fn x=true\/X.env.scope.names.lookup x=some .local:=by first|exact .inl rfl|exact .inr rfl|assumption) (h:nco e=true:=by rfl):
  SS X (.Assign [.Name x pos'] e pos) (tAsg te (gName j)):=⟨qset hN hi hx he.h hf h⟩
theorem qasgs' {g:TG}{sp2:Pos}(he:SE X e te) (hg:SG X (.Subscript o i sp2) g) (h2:nco e=true:=by rfl):SS X (.Assign [.Subscript o i sp2] e pos) (tAsg te g):=⟨zPj he.h hg.h (zM1 h2) (by cases e <;> rfl) rfl⟩
theorem qpar' {x y:Str}{px py pt pt2:Pos}{kt k2 i j:Nat}{ta:TA}(hc:X.calm=true) (hN:X.N.Nodup) (hi:X.N[i]?=some x) (hj:X.N[j]?=some y) (hij:i≠j)
  (hx:X.env.scope.names.lookup x=some .local) (hy:X.env.scope.names.lookup y=some .local) (ha:SA X [a,b] ta)
  (hw:swappedStores [.Tuple [.Name x px,.Name y py] kt pt] (.Tuple [a,b] k2 pt2) X.env=pure (some [x,y])):
  SS X (.Assign [.Tuple [.Name x px,.Name y py] kt pt] (.Tuple [a,b] k2 pt2) pos) (tPar i j ta):=⟨qpar hc hN hi hj hij hx hy ha.h hw⟩
theorem zMj (he:SE X e te):SS X (.Return (some e) pos) (tRet te):=⟨zPf he.h⟩
theorem zPh {ba bb:List Stmt}{t u:TS}(hc:ST X c tA) (ha:SSs X ba t) (hb:SSs X bb u):SS X (.If c ba bb pos) (tIfS tA t u):=⟨zRv hc.h ha.h hb.h⟩
theorem zHa {body:List Stmt}{t:TS}(hp:PassesOwn (model X.prog X.w) X.A X.env X.xe) (hc:ST X c tA) (hb:SSs X body t):SS X (.While c body [] pos) (zL2 tA t):=⟨zJl hp hc.h hb.h⟩
theorem qfor' {tg iter:Expr}{body:List Stmt}{wi:TI}{g:TG}{t:TS}(hp:PassesOwn (model X.prog X.w) X.A X.env X.xe) (hc:X.calm=true) (hi:SI X tg iter wi) (hg:SG X tg g) (hb:SSs X body t) (h:nse iter=true:=by rfl):
  SS X (.For tg iter body [] pos) (tFor wi g t):=⟨qfor hp hc hi.h hg.h hb.h h⟩
theorem qexpr' (he:SE X e te) (h:nco e=true:=by rfl):SS X (.Expr e pos) (zLy te):=⟨qexpr he.h h⟩
theorem pss_nil':SSs X [] zP1:=⟨zMg⟩
theorem zF8 {st:Stmt}{t:TS}(h:SS X st t):SSs X [st] t:=⟨zMf h.h⟩
theorem zH9 {st:Stmt}{r:List Stmt}{t u:TS}(h1:SS X st t) (h2:SSs X r u):SSs X (st::r) (tSeq t u):=⟨zJk h1.h h2.h⟩
end
end L2
namespace L2
open PySem PySem.Spec PyProof.Rows
noncomputable def BN (n:Nat) (x:Int):Prop:=x.natAbs<2 ^ n
theorem BN.bits {x:Int}(h:BN 5000 x):Builtin.Int.intBits x<=2 ^ 20:=by
 unfold Builtin.Int.intBits
 split
 ·exact xW _
 ·rename_i hx
  have h0:x.natAbs≠0:=by
   intro z
   apply hx
   have:x=0:=by nofun
   rw[this];rfl
  have:=(Nat.log2_lt h0).mpr h
  lia
theorem BN.log {x:Int}(h:BN 5000 x):x.natAbs.log2<9000:=by
 by_cases h0:x.natAbs=0
 ·rw[h0];decide +kernel
 ·have:=(Nat.log2_lt h0).mpr h
  lia
section
variable {X:Cx}
theorem zN5:OpR X (binaryOp .Mult) (rI (fun i j=>BN 5000 i/\BN 5000 j) fun i j=>.int (i*j)):=opI fun _ _ _ _ _ _ _ hc q=>mul_int q (IntMulOk.of_bits hc.1.bits hc.2.bits)
theorem zK2:OpR X (binaryOp .FloorDiv) (rI (fun _ j=>j≠0/\BN 5000 j) fun i j=>.int (i.fdiv j)):=opI fun _ _ _ _ _ _ _ hc q=>floordiv_int hc.1 q (.inl (PyProof.noPylong_of_log2 hc.2.log))
end
noncomputable def dv (u l:Int):Int:=if l<0 then -(Int.gcd u l:Int)else(Int.gcd u l:Int)
noncomputable def fN (u l:Int):Int:=u.fdiv (dv u l)
end L2
namespace L2
open PySem PySem.Spec PyProof.Rows
section
variable {X:Cx}{K:PySem.W.Frag}
theorem zGw:∀{ys:List Str}{us:List Value},Vals (ys.map V.str) us->StrsAre us ys
 | [],_,.nil=>.nil
 | y::ys,_,.cons ⟨t,e⟩ r=>by subst e;exact .cons _ _ (zGw r)
noncomputable def rJoin (K:PySem.W.Frag):V->List V->Hp->VK->Prop:=fun x vs H Q=>∃sep a ys,x=.str sep/\vs=[.ref a]/\SqL K H a (ys.map V.str)/\sep.length<=16/\(ys.map (·.length)).sum+ys.length<=1048576/\Q (.str (Txt.join sep ys)) H
theorem zNg (hK:X.K=K:=by rfl):MtR X "str.join" (rJoin K):=by
 subst hK
 intro pins s σ H x xs v us Q I rx r h
 obtain⟨sep,a,ys,rfl,rfl,hq,h1,h2,q⟩:=h
 obtain⟨t,rfl⟩:=rx
 obtain⟨u,rfl,ru⟩:=vals1 r
 cases ru
 obtain⟨its,rv,pl,hz⟩:=I.list hq
 exact join_listW pl.isList (by simpa using zGw rv) h1 h2 fun t' k=>⟨.str _,H,I.tok _,⟨_,rfl⟩,q⟩
noncomputable def Its (x:Str):It:=⟨fun i _=>i<x.cps.size,fun i H v H'=>H'=H/\∃c,x.cps[i]?=some c/\v=.str ⟨#[c]⟩,fun i _=>x.cps.size<=i⟩
theorem zJ4 {P:Program}{w:World}{tg:Expr}(it:Addr) (x:Str) (t:Tok):Turn P w K tg (Its x) [it] it (fun i h=>i<=x.cps.size/\h.IsStrIter it "str_ascii_iterator" x t i) where
 mem:=by simp
 obj:=fun i h st b hb=>by
  have e:b=it:=by simpa using hb
  subst e
  obtain⟨_,o,e,c,d⟩:=st
  exact⟨o,e,fun v z=>by rw[d]at z;cases z⟩
 keep:=fun i h h' st k=>⟨st.1,let ⟨o,ho,r⟩:=st.2;⟨o,k it (by simp) o ho,r⟩⟩
 item:=by
  intro X hP hw hK hc i pins s σ H E I hf st hg
  subst hP hw hK
  obtain⟨f0,f1,f2,f3,f4,f5⟩:=hf it (by simp)
  have hg:i<x.cps.size:=hg
  refine wpAny_pyNext_ascii_item st.2 (c:=x.cps[i]) (by simp[hg]) fun h' st' sb=>?_
  have I1:=I.turned (t':=s.toks+1) (fun b o hb e=>(sb.2 b hb).trans e) f0 f1 f3 f4 f5
  obtain⟨o,e,c,d⟩:=id st'
  exact⟨_,rfl,zKj e c d (by decide) ⟨.str ⟨#[x.cps[i]]⟩,H,I1,⟨_,rfl⟩,⟨rfl,_,by simp[hg],rfl⟩,⟨hg,st'⟩,fun b hb=>(hf b hb).1⟩⟩
 done:=by
  intro X hP hw hK hc i pins s σ H E I hf st hg
  subst hP hw hK
  obtain⟨f0,f1,f2,f3,f4,f5⟩:=hf it (by simp)
  have hg:x.cps.size<=i:=hg
  exact wpAny_pyNext_ascii_end (I.ok.hd hc) st.2 (by simp[hg]) fun h' eb=>⟨rfl,I.turned (fun b o hb e=>eb b o hb e) f0 f1 f3 f4 f5⟩
 self:=fun _ _ _ _ _ st h=>wpAny_pyIter_striter_ascii st.2 h
end
end L2
namespace TX
open PySem PySem.Builtin PySem.Builtin.Str
noncomputable abbrev ls (x:Str):List Nat:=x.cps.toList
noncomputable def jn (c:Nat):List (List Nat)->List Nat
 | []=>[]
 | a::l=>a++l.flatMap fun p=>c::p
theorem zI2 (g:Array Nat):∀(l:List Str) (a:Array Nat),(l.foldl (fun acc p=>acc++g++p.cps) a).toList=a.toList++l.flatMap fun p=>g.toList++p.cps.toList
 | [],a=>by simp
 | p::l,a=>by rw[List.foldl_cons,zI2 g l];simp
noncomputable def dg (m:Nat):List Nat:=(Nat.toDigits 10 m).map Char.toNat
theorem zOj {m:Nat}(h:10<=m):dg m=dg (m / 10)++[(Nat.digitChar (m % 10)).toNat]:=by
 have hm:m % 10<10:=Nat.mod_lt m (by decide)
 have t:Nat.toDigits 10 (m / 10)++Nat.toDigits 10 (m % 10)=Nat.toDigits 10 (10*(m / 10)+m % 10):=Nat.toDigits_append_toDigits (by decide) (by omega) hm
 rw[Nat.div_add_mod]at t
 unfold dg
 rw[<- t,List.map_append,Nat.toDigits_of_lt_base hm]
 rfl
theorem zLm {m:Nat}(h:m<10):dg m=[(Nat.digitChar m).toNat]:=by
 unfold dg
 rw[Nat.toDigits_of_lt_base h];rfl
theorem zLn:∀(k m:Nat),1<=k->m<10 ^ k->1<=(dg m).length/\(dg m).length<=k
 | 0,m,h,_=>by omega
 | 1,m,_,h=>by rw[zLm (by simpa using h)];simp
 | k+2,m,_,h=>by
  by_cases c:m<10
  ·rw[zLm c];simp
  ·rw[zOj (by omega),xZ]
   have:=zLn (k+1) (m / 10) (by omega) (by rw[Nat.div_lt_iff_lt_mul (by decide)];rw[Nat.pow_succ]at h;exact h)
   simp;omega
noncomputable def nm (n:Int):List Nat:=if n<0 then 45::dg n.natAbs else dg n.natAbs
theorem zS6 (n:Int):ls (Str.ofString (toString n))=nm n:=by
 cases n with
 | ofNat m=>
  have:nm (Int.ofNat m)=dg m:=by unfold nm;rw[xc (by simp)];rfl
  rw[this];exact PySem.W.KIN.signs_num m
 | negSucc m=>
  have e0:nm (Int.negSucc m)=45::dg (m+1):=by unfold nm;rw[xb (Int.negSucc_lt_zero m)];rfl
  rw[e0]
  show(Str.ofString ("-"++Nat.repr (m+1))).cps.toList=_
  rw[PyProof.Rows.signs_ofString,String.toList_append,List.map_append]
  unfold dg
  rw[Nat.toList_repr]
  rfl
end TX
namespace L2
open PySem PySem.Spec PyProof.Rows
section
variable {X:Cx}{K:PySem.W.Frag}
theorem zJx {x:Str}{v:V}{u:Value}{pos:Pos}(hg:Gl X x) (hm:X.mg x=some u) (r:RelV v u) (hd:(x == ("__debug__":Str))=false:=by decide):SE X (.Name x pos) (tC v):=⟨zMv hg hm r hd⟩
variable {σ:St}{H:Hp}{Q:VK}
end
end L2
namespace TX
open PySem PySem.Builtin PySem.Builtin.Str L2
theorem zFe (x:Str):x.length=(ls x).length:=by simp[Str.length]
end TX
namespace L2
open PySem PySem.Spec PyProof.Rows
structure Noted (fs:List Addr) (e:Addr) (old:Option Addr) (h h':Heap):Prop where
 keep:∀b o,b ∉ fs->b≠e->old≠some b->h.get? b=some o->h'.get? b=some o
 slot:∀b o,b∈fs->h.get? b=some o->∃sl,h'.get? b=some { o with slots:=sl }
 exc:∀oe vs,h.get? e=some oe->oe.data=.fields vs->h'.get? e=some (oe.mapFields (·.setIfInBounds 1 (.ref h.objs.size)))
 tb:∃oT ts,h'.get? h.objs.size=some oT/\oT.data=.fields ts/\ts[3]?=some .none
noncomputable def Tbk (h:Heap) (e:Addr) (vs:Array Value):Option Addr->Prop
 | none=>vs[1]?=some .none
 | some T=>vs[1]?=some (.ref T)/\T≠e/\∃oT ts,h.get? T=some oT/\oT.data=.fields ts/\ts[3]?=some .none
section
variable {M:Model}{A:Around}{E:Value->Shared->Prop}{s:Shared}{base:Heap}{env:Env}{outer:List Env}{L e:Addr}{oe:Obj}{vs:Array Value}{Q:Unit->Shared->Prop}
theorem zE0 {head:Value}{hadNext:Bool}(hfr:A.frames=some (env::outer)) (hl:s.heap.FunFrames base (env::outer)) (hf:env.frame=some L) (he:s.heap.get? e=some oe) (hd:oe.data=.fields vs) (hsz:1<vs.size)
  (h:∀h',Noted (frs (env::outer)) e none s.heap h'->Q () { s with heap:=h' }):
  wpAny M A (do let a <- frameOf env;let pl <- entryPlaceOf L hadNext;let b <- EntryCells.newEntry head a .none (rawInt L) .none pl;setField (.ref e) 1 b) (fun _ s'=>wpAny M A (setFlight (.ref e) none) Q E s') E s:=by
 have nfr:∀b∈frs (env::outer),∃o,s.heap.get? b=some o/\∀ws,o.data≠.fields ws:=fun b hb=>(hl.mem hb).2
 have hene:e ∉ frs (env::outer):=fun hm=>by
  obtain⟨o,ho,hnf⟩:=nfr e hm
  rw[he]at ho;cases ho;exact hnf vs hd
 refine xa (wpAny_frameOf_fun hfr hl hf fun h1 hs1=>?_)
 refine xa (wpAny_entryPlaceOf fun pl hpl=>?_)
 unfold EntryCells.newEntry newFields
 refine xa (vg ?_ (hpl.sizeOk5 _ _ _ _ _))
 have z1:h1.objs.size=s.heap.objs.size:=hs1.1
 have he1:h1.get? e=some oe:=(hs1.2.1 e hene).trans he
 generalize hN:({ cls:=.type "traceback",dict:=none,data:=.fields ([head,.ref L,.none,rawInt L,.none]++(if pl.isEmpty then List.replicate 6 Value.none else pl)).toArray }:Obj)=oN
 have dN:oN.data=.fields ([head,.ref L,.none,rawInt L,.none]++(if pl.isEmpty then List.replicate 6 Value.none else pl)).toArray:=by rw[<- hN]
 have fN:oN.isFreed=false:=by rw[<- hN];rfl
 have he2:=xl oN he1
 refine wpAny_setField he2 hd hsz ?_
 have hTe:h1.objs.size≠e:=Nat.ne_of_gt (xi he1)
 have hd3:=Obj.data_mapFields hd (·.setIfInBounds 1 (Value.ref h1.objs.size))
 have he3:=vJ (Obj.mapFields (·.setIfInBounds 1 (Value.ref h1.objs.size))) he2 (Obj.isFreed_of_fields hd3)
 have hT3:=(xQ (h1.push oN) (Obj.mapFields (·.setIfInBounds 1 (Value.ref h1.objs.size))) (xk hTe)).trans (xv h1 fN)
 unfold setFlight
 refine xa (x8 he3 hd3 (x:=.ref h1.objs.size) (by simp[hsz]) ?_)
 rw[xb (show(Value.ref h1.objs.size != Value.none)=true from by simp)]
 refine wpAny_setField hT3 dN (by simp only[xm,xZ,xH,vx] <;> lia) (h _ ?_)
 have keep:∀b o,b≠e->h1.get? b=some o->(((h1.push oN).update e (Obj.mapFields (·.setIfInBounds 1 (Value.ref h1.objs.size)))).update h1.objs.size (Obj.mapFields (·.setIfInBounds 3 ((none:Option Addr).elim Value.none fun f=>rawInt f)))).get? b=some o:=fun b o hbe hb=>by
  have hbT:h1.objs.size≠b:=Nat.ne_of_gt (xi hb)
  rw[xQ _ _ hbT,xQ _ _ (xk hbe)]
  exact xl _ hb
 refine⟨fun b o hb hbe _ eb=>keep b o hbe ((hs1.2.1 b hb).trans eb),fun b o hb eb=>?_,fun oe' vs' ee _=>?_,?_⟩
 ·obtain⟨sl,q⟩:=hs1.2.2 b o eb
  exact⟨sl,keep b _ (fun z=>hene (z ▸ hb)) q⟩
 ·rw[he]at ee;cases ee
  rw[xQ _ _ hTe,<- z1]
  exact he3
 ·rw[<- z1]
  refine⟨_,_,vJ _ hT3 (Obj.isFreed_of_fields (Obj.data_mapFields dN _)),Obj.data_mapFields dN _,?_⟩
  first|(simp;done)|(rcases hpl with rfl|⟨_,_,_,_,_,_,_,rfl⟩ <;> simp)
theorem zK4 {old:Option Addr}(hfr:A.frames=some (env::outer)) (hl:s.heap.FunFrames base (env::outer)) (hf:env.frame=some L) (he:s.heap.get? e=some oe) (hd:oe.data=.fields vs) (ht:Tbk s.heap e vs old)
  (h:∀h',Noted (frs (env::outer)) e old s.heap h'->Q () { s with heap:=h' }):wpAny M A (noteFrame (.ref e) env) (fun _ s'=>wpAny M A (setFlight (.ref e) none) Q E s') E s:=by
 unfold noteFrame
 simp only[hf]
 cases old with
 | none=>
  have h1:vs[1]?=some .none:=ht
  refine xa (x8 he hd h1 ?_)
  rw[xc (by decide)]
  exact zE0 hfr hl hf he hd (vP.mp h1).1 h
 | some T=>
  obtain⟨h1,hTe,oT,ts,hT,hdT,h3⟩:=ht
  refine xa (x8 he hd h1 ?_)
  rw[xb (show(Value.ref T != Value.none)=true from by simp)]
  refine xa (x8 hT hdT h3 ?_)
  rw[xc (show ¬ ((Value.none == rawInt L)=true)from by simp[rawInt])]
  refine xa (wpAny_setField hT hdT (vP.mp h3).1 ?_)
  have other:∀b,b≠T->(s.heap.update T (Obj.mapFields (·.setIfInBounds 3 Value.none))).get? b=s.heap.get? b:=fun b hb=>xQ _ _ (xk hb)
  have sz:(s.heap.update T (Obj.mapFields (·.setIfInBounds 3 Value.none))).objs.size=s.heap.objs.size:=Heap.size_after_update ..
  have rec':∀b o,s.heap.get? b=some o->(∀ws,o.data≠.fields ws)->b≠T:=fun b o hb hnf q=>by
   rw[q,hT]at hb;cases hb;exact hnf ts hdT
  refine zE0 (s:={ s with heap:=s.heap.update T (Obj.mapFields (·.setIfInBounds 3 Value.none)) }) hfr (hl.of_keeps fun b o hb hnf=>⟨o,(other b (rec' b o hb hnf)).trans hb,rfl⟩) hf ((other e (xk hTe)).trans he) hd (vP.mp h1).1 fun h' N=>h h' ?_
  refine⟨fun b o hb hbe ho eb=>N.keep b o hb hbe (by simp) ((other b fun z=>ho (by rw[z])).trans eb),fun b o hb eb=>?_,fun oe' vs' ee dd=>?_,?_⟩
  ·obtain⟨o',q,hnf⟩:=(hl.mem hb).2
   rw[eb]at q;cases q
   exact N.slot b o hb ((other b (rec' b o eb hnf)).trans eb)
  ·have:=N.exc oe' vs' ((other e (xk hTe)).trans ee) dd
   rw[show({ s with heap:=s.heap.update T (Obj.mapFields (·.setIfInBounds 3 Value.none)) }:Shared).heap.objs.size=s.heap.objs.size from sz]at this
   exact this
  ·have:=N.tb
   rw[show({ s with heap:=s.heap.update T (Obj.mapFields (·.setIfInBounds 3 Value.none)) }:Shared).heap.objs.size=s.heap.objs.size from sz]at this
   exact this
end
end L2
namespace L2
open PySem PySem.Spec PyProof.Rows
section
variable {prog:Program}{w:World}{A:Around}{E:Value->Shared->Prop}{h:Heap}{g:Array GenState}{d:Drawn}{t:Nat}{os:OsState}
variable {nm q:Str}{C N:Addr}{bs bm bmB:List Value}{hdct:Bool}{sn:List Str}{sub:List Value}{ab:Bool}{col:Option Bool}{dd:Option Addr}{k0 k1 k2 k3 k5:Option Value}{B newId initId:String}
theorem zC6 (F:ExcBaseFacts B newId initId bmB) (T:OwnTail h bmB bm) {mN:Str->Option Value}{rest:List Value}{fI:Addr}{oI:Obj}{Q:Fin->Shared->Prop}
  (hC:h.get? C=some (excClassObj nm q C N bs bm hdct sn sub ab col dd k0 k1 k2 k3 k5 newId)) (hn:h.Ns N mN) (hi:mN "__init__"=some (.ref fI)) (hfI:h.get? fI=some oI) (hfc:oI.cls=.type "function")
  (hq:∀h',Heap.MadeExcOf h h' (h.objs.size+1) (.ref C) rest->wpAny (model prog w) A (call (.ref fI) (.ref (h.objs.size+1)::rest)) (fun r s'=>r=.none/\Q (.done (.ret (.ref (h.objs.size+1)))) s') E ⟨h',g,d,t,os⟩) (hrest:rest.length<=sizeLine):
  wpAny (model prog w) A (Builtin.«type.__call__» ⟨.ref C::rest,[]⟩) Q E ⟨h,g,d,t,os⟩:=by
 repeat (first|with_reducible refine vd hC ?_|with_reducible refine wpAny_madeBy_exc hC ?_|wp_step)
 refine codeAny_call_builtin_code (Code.quiet_builtin _ F.quiet) (wpAny_check_new_subT F T hC ?_)
 refine codeAny_exc_new_subT F T hC ?_ hrest
 show wpAny _ _ _ _ _ _
 generalize hoT:({ cls:=.type "tuple",data:=.seq rest.toArray }:Obj)=oT
 generalize hoE:({ cls:=.ref C,data:=.fields #[.ref h.objs.size,.none,.none,.none,.bool false,.none] }:Obj)=oE
 have fT:oT.isFreed=false:=by rw[<- hoT];rfl
 have fE:oE.isFreed=false:=by rw[<- hoE];rfl
 have kp:∀b o,h.get? b=some o->((h.push oT).push oE).get? b=some o:=fun b o e=>xl _ (xl _ e)
 have hC1:=kp _ _ hC
 have hn1:((h.push oT).push oE).Ns N mN:=let ⟨o,es,ep,e,r⟩:=hn;⟨o,es,ep,kp _ _ e,r⟩
 have hget:((h.push oT).push oE).get? (h.objs.size+1)=some oE:=by
  have:=xv (h.push oT) fE
  rwa[xX]at this
 have hcE:oE.cls=.ref C:=by rw[<- hoE]
 have hcC:(Value.ref C::bm).contains (.ref C)=true:=by simp
 have T1:=T.keeps kp
 unfold isInstance
 repeat (first|(with_reducible refine vd hget ?_;rw[hcE])|(with_reducible refine wpAny_isSubtype_exc hC1 ?_;rw[hcC])|wp_step)
 show wpAny _ _ (typeLookup (.ref C) _) _ _ _
 refine wpAny_typeLookup_tail hC1 hn1 T1 F.mroIs F.init.lookup ?_
 rw[hi]
 refine xx (xa ?_)
 unfold bindSpecial
 refine xa (wpAny_typeOf (T:="function") ⟨_,kp _ _ hfI,hfc⟩ ?_)
 rw[xb (by decide)]
 refine xf (xa (xw (hq _ ⟨kp,vF (vm _),h.objs.size,by rw[hoE];exact hget,vF (xh _),?_⟩) (fun r s' hr=>?_) fun _ _ x=>x))
 ·rw[hoT]
  exact xl _ (xv h fT)
 ·obtain⟨rfl,hQ⟩:=hr
  wp_walk
  exact hQ
theorem zGj (F:ExcBaseFacts B newId initId bmB) (T:OwnTail h bmB bm) {mN:Str->Option Value}{rest:List Value}{fI:Addr}{oI:Obj}{Q:Value->Shared->Prop}
  (hC:h.get? C=some (excClassObj nm q C N bs bm hdct sn sub ab col dd k0 k1 k2 k3 k5 newId)) (hn:h.Ns N mN) (hi:mN "__init__"=some (.ref fI)) (hfI:h.get? fI=some oI) (hfc:oI.cls=.type "function")
  (hq:∀h',Heap.MadeExcOf h h' (h.objs.size+1) (.ref C) rest->wpAny (model prog w) (A.under (.builtin "type.__call__" ⟨.ref C::rest,[]⟩)) (call (.ref fI) (.ref (h.objs.size+1)::rest)) (fun r s'=>r=.none/\Q (.ref (h.objs.size+1)) s') E ⟨h',g,d,t,os⟩) (hrest:rest.length<=sizeLine):
  wpAny (model prog w) A (call (.ref C) rest) Q E ⟨h,g,d,t,os⟩:=by
 have f1:=tc_lookup
 have f2:=tc_bind (.ref C)
 have hT:(⟨h,g,d,t,os⟩:Shared).TypeIs (.ref C) "type":=⟨_,hC,rfl⟩
 refine wpAny_call (codeAny_of_tree ?_)
 show wpAny _ _ (callAny (.ref C) _) _ _ _
 repeat (any_goals (first|assumption|with_reducible refine vd hC ?_|wp_step))
 refine⟨rfl,?_⟩
 exact codeAny_call_builtin_at (Code.quiet_builtin _ (by decide +kernel)) entry_typeCall (wpAny_check_type_call_sub hC (zC6 F T hC hn hi hfI hfc (fun h' hm=>hq h' hm) hrest))
end
end L2
namespace L2
open PySem PySem.Spec PyProof.Rows
theorem zFy (self:Value):refuseLoop self "__setattr__" [.type "ValueError",.type "Exception",.type "BaseException",.type "object"]=pure ():=by kernel_rfl
noncomputable def zEj:List Value->Bool
 | .ref _::r=>zEj r
 | l=>l == [.type "ValueError",.type "Exception",.type "BaseException",.type "object"]
theorem zBt (self:Value):∀{l:List Value},zEj l=true->refuseLoop self "__setattr__" l=pure ()
 | [],e=>by cases e
 | v::r,e=>by
  cases v with
  | ref c=>rw[refuseLoop_ref];exact zBt self (l:=r) e
  | _=>have e:=xA.mp e;rw[e];exact zFy self
noncomputable def zI7 (K:PySem.W.Frag) (C:Addr):Bool:=(PySem.W.clsIn K C).any fun cd=>zEj cd.mro
structure ClsE (K:PySem.W.Frag) (C:Addr):Prop where
 ga:PySem.W.findIn K (.ref C) "__getattribute__"=some (some (.builtin "BaseException.__getattribute__"))
 gn:PySem.W.findIn K (.ref C) "__getattr__"=some none
 hd:PySem.W.hasDictIn K C=true
 po:zI7 K C=true
 sa:PySem.W.findIn K (.ref C) "__setattr__"=some (some (.builtin "object.__setattr__"))
 mb:PySem.W.mroIn K C (.type "BaseException")=some true
 mo:PySem.W.mroIn K C (.type "object")=some true
section
open PySem.W
variable {prog:Program}{w:World}{A:Around}{E:Value->Shared->Prop}{s:Shared}{K:PySem.W.Frag}{x C:Addr}{ox:Obj}{od:Option Obj}{name:Str}{R:Result->Shared->Prop}
theorem zHi {tk:Tok}{v:Value}{r:Option Value}(X:K.In s.heap) (I:InstAt s.heap x ox C od) (c:ClsE K C) (ht:takerIn K C name=some r)
  (h:∀b,wpAny (model prog w) A.in1 (match r with|some a=>Builtin.ObjectAttr.setByDescriptor a (.ref x) v|none=>Builtin.ObjectAttr.storeInOwnDict (.ref x) (.ref C) (.str name tk) name v b)
   (fun fin s'=>match fin with|.done f=>R (.ok f) s'|.again c'=>c'.quiet=true/\codeAny (model prog w) A c' R s') (fun e s'=>R (.error e) s') s):
  codeAny (model prog w) A (.call (.builtin "object.__setattr__") ⟨[.ref x,.str name tk,v],[]⟩) R s:=by
 have SF:=PySem.F.store_object
 obtain⟨cd,hc,ho⟩:=any_some c.po
 have sub:Looks (model prog w) s.heap (isInstance (.ref x) (.type "object")) true:=I.type.andThen (looks_mroIn X c.mo)
 refine codeAny_call_builtin SF.slot.plain SF.entry (@check_slot (model prog w) _ _ s "object.__setattr__" "object" "__setattr__" (.ref x) [.str name tk,v] [] _ SF.kind SF.split sub (SF.args (.ref x) (.str name tk) v) ?_)
 obtain⟨attr,ha,hr⟩:=Option.bind_eq_some_iff.mp ht
 have hm:Looks (model prog w) s.heap (mroOf (.ref C)) cd.mro:=(looks_clsIn X hc).andThen .now
 have L3:Looks (model prog w) s.heap (Builtin.ObjectAttr.storeTaker? attr) r:=by
  cases attr with
  | none=>cases hr;exact .now
  | some a=>
   obtain⟨b,hb,rfl⟩:=vy.mp hr
   refine(looks_takesIn X hb).andThen ?_
   cases b <;> exact .now
 rw[osa_eq,refuse_eq]
 refine xa (xa (I.type.here (xa (hm.here ?_))));rw[zBt _ ho]
 exact xf (xa (I.type.here (xa ((looks_findIn X ha).here (xa (L3.here (h _)))))))
theorem zLg {tk:Tok}{fill expr:Bool}{Q:Value->Shared->Prop}(X:K.In s.heap) (I:InstAt s.heap x ox C od) (c:ClsE K C)
  (h:wpAny (model prog w) A.in1 (Builtin.«object.__getattribute__» ⟨[.ref x,.str name tk],[]⟩) (fun fin s'=>match fin with
   | .done (.ret v)=>wpAny (model prog w) A (handedOut v) Q E s'
   | .done _=>False
   | .again c'=>c'.quiet=true/\codeAny (model prog w) A c' (fun r s'=>match r with|.ok (.ret v)=>wpAny (model prog w) A (handedOut v) Q E s'|_=>False) s') (fun _ _=>False) s):wpAny (model prog w) A (getAttrBy (.ref x) (.str name tk) fill expr) Q E s:=by
 obtain⟨hh,g,d,t,os⟩:=s
 have L0:=I.type (M:=model prog w)
 have L1:=looks_findIn (M:=model prog w) X c.ga
 have L2:=looks_findIn (M:=model prog w) X c.gn
 have sub:Looks (model prog w) hh (isInstance (.ref x) (.type "BaseException")) true:=L0.andThen (looks_mroIn X c.mb)
 unfold getAttrBy
 refine xx (xa (L0.at (xa (L1.at ?_))))
 show wpAny _ _ (getAttrByItsOwn _ _ _ _ _ _) _ _ _
 unfold getAttrByItsOwn
 refine xa (show wpAny _ _ (typeLookup (.ref C) "__getattr__") _ _ _ from L2.at (xa (wpAny_attempt (xx ?_))))
 have e1:callGetattribute (.ref x) (.str name tk) (.builtin "BaseException.__getattribute__") expr=boundAndCalled (.builtin "BaseException.__getattribute__") (.ref x) (.str name tk):=by
  unfold callGetattribute
  rw[xc (by cases expr <;> decide)]
 rw[e1]
 unfold boundAndCalled
 rw[PySem.F.excAttr_ValueError.ga.bind]
 refine xa (xf (wpAny_call (codeAny_call_builtin PySem.F.excAttr_ValueError.ga.plain PySem.F.entry_bexc_ga (@check_slot (model prog w) _ _ _ "BaseException.__getattribute__" "BaseException" "__getattribute__" (.ref x) [.str name tk] [] _ (by decide +kernel) (by decide +kernel) sub (PySem.F.args_bexc_ga _ _) ?_))))
 refine xw h (fun fin s' z=>?_) fun _ _ z=>z.elim
 cases fin with
 | done f=>cases f <;> first|exact z|exact z.elim
 | again c'=>exact⟨z.1,codeAny_mono z.2 fun r s' q=>by rcases r with e|(v|_|_|_) <;> first|exact q|exact q.elim⟩
theorem zG6 {v:Value}{expr:Bool}{Q:Value->Shared->Prop}(X:K.In s.heap) (I:InstAt s.heap x ox C od) (c:ClsE K C) (hf:findObj K C od name=some (.value v)) (hh:handedIn v=true) (h:Q v { s with toks:=s.toks+1 }):wpAny (model prog w) A (getAttr (.ref x) name expr) Q E s:=by
 unfold getAttr
 refine xa (wpAny_mkText (zLg (s:={ s with toks:=s.toks+1 }) X I c ?_))
 obtain⟨hh',g,d,t,os⟩:=s
 have L0:=I.type (M:=model prog w)
 have L1:=looks_find (M:=model prog w) X I hf
 refine xa (xf (xa (xf (xa (L0.at (xa (L1.at ?_)))))))
 refine xf ?_
 show wpAny _ _ (handedOut v) _ _ _
 rw[handedOut_of hh];exact xf h
theorem zG7 {Q:Option Value->Shared->Prop}(ha:findIn K (.ref C) "__class__"=some (some (.builtin "object.__class__")))
  (hn:specialIn K (.builtin "object.__class__") "__get__"=some (some (.builtin "getset_descriptor.__get__"))) (htk:takesIn K (.builtin "object.__class__")=some true) (X:K.In s.heap) (I:InstAt s.heap x ox C od) (c:ClsE K C) (h:Q (some (.ref C)) { s with toks:=s.toks+1 }):
  wpAny (model prog w) A (getAttr? (.ref x) "__class__") Q E s:=by
 have hf:findObj K C od "__class__"=some (.bind (.builtin "getset_descriptor.__get__") (.builtin "object.__class__")):=by
  obtain⟨cd,hc,_⟩:=any_some c.hd
  unfold findObj
  rw[hc,Option.bind_some,ha,Option.bind_some]
  simp[hn,htk]
 unfold getAttr? getAttrBy?
 refine xa (wpAny_mkText (xa (wpAny_attempt (zLg (s:={ s with toks:=s.toks+1 }) X I c ?_))))
 obtain⟨hh',g,d,t,os⟩:=s
 have L0:=I.type (M:=model prog w)
 have L1:=looks_find (M:=model prog w) X I hf
 refine xa (xf (xa (xf (xa (L0.at (xa (L1.at ?_)))))))
 unfold Builtin.ObjectAttr.bindTo
 refine xa (xx (wpAny_call (class_get (s:={ heap:=hh',gens:=g,drawn:=d,toks:=t+1,os:=os }) (ox:=ox) (od:=od) X I c.mo ?_)))
 refine xf ?_
 exact handed_on rfl (xf h)
theorem zKa {ox:Obj}{od:Option Obj}(c:ClsE K C) (ha:findIn K (.ref C) "__class__"=some (some (.builtin "object.__class__")))
  (hn:specialIn K (.builtin "object.__class__") "__get__"=some (some (.builtin "getset_descriptor.__get__"))) (htk:takesIn K (.builtin "object.__class__")=some true):
  KitX K (.ref x) (.ref C) (fun h=>InstAt h x ox C od) where
 ty:=fun _ _ _ I=>I.type
 it:=fun _ _ X _=>by
  obtain⟨cdD,hcD,_⟩:=any_some c.hd
  unfold clsIn at hcD
  split at hcD
  ·rename_i c' d' cd' sl' ho
   intro A' Q' E' s' k q
   unfold isType loadHead
   exact xa (wpAny_loadPart (k _ _ (X _ _ ho)) (xf q))
  ·cases hcD
 ne:=fun h tp dd its n sl X htp=>by
  obtain⟨cdD,hcD,_⟩:=any_some c.hd
  refine vB.mpr fun q=>?_
  have e:C=tp:=Value.ref.inj (xA.mp q)
  subst e
  unfold clsIn at hcD
  split at hcD
  ·rename_i c' d' cd' sl' ho
   have z:=(X _ _ ho).symm.trans htp
   cases z
  ·cases hcD
 ca:=fun X I k=>zG7 ha hn htk X I c k
end
end L2
namespace L2
open PySem PySem.Spec PyProof.Rows
section
variable {prog:Program}{w:World}{A:Around}{E:Value->Shared->Prop}{s:Shared}{K:PySem.W.Frag}{e C:Addr}{oe:Obj}{vs:Array Value}{name:Str}{v:Value}
theorem zM5 {Q:Unit->Shared->Prop}(X:K.In s.heap) (he:s.heap.get? e=some oe) (hc:oe.cls=.ref C) (hdn:oe.dict=none) (hdt:oe.data=.fields vs)
  (c:ClsE K C) (ht:PySem.W.takerIn K C name=some none)
  (h:∀h',h'.get? e=some { oe with dict:=some s.heap.objs.size }->h'.Ns1 s.heap.objs.size (fun y=>if y=name then some v else none)->(∀b o,b≠e->s.heap.get? b=some o->h'.get? b=some o)->Q () { s with heap:=h',toks:=s.toks+2 }):
  wpAny (model prog w) A (setAttr (.ref e) name v) Q E s:=by
 obtain⟨cls,dict,data,slots⟩:=oe
 simp only at hc hdn hdt
 subst hc hdn hdt
 have J:PySem.W.InstAt s.heap e ⟨.ref C,none,.fields vs,slots⟩ C none:=⟨he,rfl,rfl,trivial⟩
 refine PySem.W.set_plain X J c.sa (zHi (s:={ s with toks:=s.toks+1 }) (r:=none) X J c ht fun b=>?_)
 obtain⟨cd,hcd,hd'⟩:=PySem.W.any_some c.hd
 refine xa (xf (xa (xa (wpAny_loadPart he (xa (PySem.W.Looks.here (s:={ s with toks:=s.toks+1 }) (PySem.W.looks_clsIn X hcd) ?_))))))
 rw[hd']
 rw[xc (by simp)]
 show wpAny _ _ (alloc { cls:=.type "dict",data:=.dict #[] } >>= _) _ _ _
 refine xa (wpAny_alloc ?_)
 have he1:=xl ({ cls:=.type "dict",data:=.dict #[] }:Obj) he
 refine xa (wpAny_update he1 ?_)
 show wpAny _ _ (pure (some _)) _ _ _
 refine xf (xa (xf (xa ?_)))
 have hne:e≠s.heap.objs.size:=xo (xi he)
 have hd1:((s.heap.push ({ cls:=.type "dict",data:=.dict #[] }:Obj)).update e fun o=>{ o with dict:=some s.heap.objs.size }).get? s.heap.objs.size=some { cls:=.type "dict",data:=.dict #[] }:=
  (xQ _ _ hne).trans (xv _ rfl)
 have he2:((s.heap.push ({ cls:=.type "dict",data:=.dict #[] }:Obj)).update e fun o=>{ o with dict:=some s.heap.objs.size }).get? e=some ⟨.ref C,some s.heap.objs.size,.fields vs,slots⟩:=vJ _ he1 rfl
 have n1:((s.heap.push ({ cls:=.type "dict",data:=.dict #[] }:Obj)).update e fun o=>{ o with dict:=some s.heap.objs.size }).Ns1 s.heap.objs.size fun _=>none:=.of_empty ⟨_,_,_,hd1,rfl,fun x hx=>by simp at hx,fun x=>by simp[nsFind,findBy]⟩
 refine wpAny_nsSet1 (s:={ s with heap:=_,toks:=s.toks+1 }) n1 fun h' hn2 hs2=>?_
 obtain⟨oD,esD,epD,hoD,hdD,hcD⟩:=hn2.count (PySem.Within.cons (ns:=[]) name v fun x hx=>absurd rfl hx)
 refine xa (wpAny_lookBehind hoD (by rw[hdD];exact pastItsLine_dict (xq hcD (show 1<=sizeLine+1 by decide))) ?_)
 refine xf (h h' ((hs2.2 e hne).trans he2) hn2 fun b o hb eb=>?_)
 have hbn:b≠s.heap.objs.size:=xo (xi eb)
 rw[hs2.2 b hbn,xQ _ _ (xk hb)]
 exact xl _ eb
end
end L2
namespace L2
open PySem PySem.Spec PyProof.Rows
noncomputable def XO (a C:Addr) (dx:Option Addr) (fr:Bool):Heap->Prop:=fun h=>∃vs sl,h.get? a=some ⟨.ref C,dx,.fields vs,sl⟩/\1<vs.size/\(fr=true->vs[1]?=some .none)
section
variable {P:Program}{w:World}{H:Hp}{h:Heap}{a C:Addr}{dx:Option Addr}{fr:Bool}
theorem XO.ok (x:XO a C dx fr h):ObjOk P w H h a (.ext (XO a C dx fr)):=⟨x,let ⟨_,_,e,_⟩:=x;⟨_,e⟩,fun _ _ ⟨vs,sl,e,z⟩ k=>⟨vs,sl,k _ e,z⟩⟩
end
section
variable {X:Cx}{pins:List (Addr × Obj)}{σ:St}{H:Hp}{s:Shared}
theorem Inv.more {s0:Shared}{H0:Hp}{f:Addr}{o:HO}(I0:Inv X pins σ H0 s0) (hf:s0.heap.objs.size<=f) (I:Inv X pins σ H s) (n:H f=none) (ho:ObjOk X.prog X.w (upd H f o) s.heap f o):Inv X pins σ (upd H f o) s:=by
 have n0:=xq I0.sz hf
 have old:∀b ob,X.s₀.heap.get? b=some ob->b≠f:=fun b ob e=>xo (xn (xi e) n0)
 have kp:∀b ob,H b=some ob->upd H f o b=some ob:=fun b ob e=>by rw[zA3 (zA2 e n)];exact e
 obtain⟨_,nl,_,_,nc,np⟩:=I0.fpOk (H':=H) hf n
 refine⟨I.ok,I.os,I.bare,⟨I.base.keep,I.base.slot,fun b ob e m hx=>?_,I.base.there,fun b xs e=>kp _ _ (I.base.tups b xs e),fun b ob u e=>kp _ _ (I.base.frzs b ob u e),fun b ps e=>?_⟩,I.loc,I.cell,?_,fun x c e=>?_,fun p hp=>?_,fun b ob e=>?_,I.len⟩
 ·rw[zA3 (old b ob e)];exact I.base.free b ob e m hx
 ·obtain⟨m,q⟩:=I.base.tbls b ps e
  exact⟨m,kp _ _ q⟩
 ·rw[zA3 nl.symm];exact I.free
 ·rw[zA3 (nc x c e)];exact I.freeC x c e
 ·obtain⟨e,m,r⟩:=I.pin p hp
  exact⟨e,by rw[zA3 (np p hp)];exact m,r⟩
 ·by_cases z:b=f
  ·subst z;rw[zA5]at e;cases e;exact ho
  ·rw[zA3 z]at e
   exact(I.hok b ob e).stay (fun _ _ _ q=>q) (fun _ q=>kp _ _ q) fun _ _ q=>kp _ _ q
section
variable {A:Around}{E:Value->Shared->Prop}{a C:Addr}{f:Str}{fr:Bool}
theorem zM3 {y:V}{u:Value}{Q:Unit->Shared->Prop}(I:Inv X pins σ H s) (e:H a=some (.ext (XO a C none fr))) (c:ClsE X.K C) (n:NoAttr X.K C f) (ry:RelV y u)
  (h:∀s' dx,H dx=none->dx≠a->Inv X pins σ (upd (upd H a (.ext (XO a C (some dx) fr))) dx (.xd [(f,y)])) s'->Q () s'):wpAny (model X.prog X.w) A (setAttr (.ref a) f u) Q E s:=by
 obtain⟨⟨vs,sl,he,hz⟩,_⟩:=I.hok a _ e
 have hne:s.heap.objs.size≠a:=Nat.ne_of_gt (xi he)
 have fsh:H s.heap.objs.size=none:=I.hok.fresh (xh _)
 refine zM5 I.kIn he rfl rfl rfl c n.taker fun h' e' n' k'=>h _ s.heap.objs.size fsh hne ?_
 have I1:Inv X pins σ (upd H a (.ext (XO a C (some s.heap.objs.size) fr))) { s with heap:=h',toks:=s.toks+2 }:=I.write (x:=a) (e:=a) (by rw[e];exact True.intro) (.inl rfl) (fun b o hb z=>k' b o hb z) ⟨_,e'⟩ (XO.ok ⟨vs,sl,e',hz⟩)
 refine Inv.more I (xh _) I1 (by rw[zA3 hne];exact fsh) ⟨_,n',fun g=>?_⟩
 show RelO (List.lookup g [(f,y)]) (if g=f then some u else none)
 by_cases z:g=f
 ·have hb:(g == f)=true:=xA.mpr z
  simp only[List.lookup,hb,xb z]
  exact ry
 ·have hb:(g == f)=false:=beq_eq_false_iff_ne.mpr z
  simp only[List.lookup,hb,xc z]
  exact True.intro
theorem zNv {b:Bool}{dx:Addr}{fs:List (Str × V)}{v:V}{Q:Value->Shared->Prop}(I:Inv X pins σ H s) (e:H a=some (.ext (XO a C (some dx) fr))) (ed:H dx=some (.xd fs)) (c:ClsE X.K C) (n:NoAttr X.K C f) (l:fs.lookup f=some v)
  (h:∀u s',Inv X pins σ H s'->RelV v u->Q u s'):wpAny (model X.prog X.w) A (getAttr (.ref a) f b) Q E s:=by
 obtain⟨⟨vs,sl,he,hz⟩,_⟩:=I.hok a _ e
 obtain⟨mA,hn,r⟩:=I.hok dx _ ed
 obtain⟨od,ho,hl⟩:=zDu hn
 obtain⟨u,hu,ru⟩:=RelO.some_of (v:=v) (o:=mA f) (by rw[<- l];exact r f)
 have J:PySem.W.InstAt s.heap a ⟨.ref C,some dx,.fields vs,sl⟩ C (some od):=⟨he,rfl,rfl,ho⟩
 exact zG6 I.kIn J c (PySem.W.findObj_own c.hd n rfl (by rw[hl,hu])) (zHy ru) (h u _ (I.tok _) ru)
end
end
end L2
namespace L2
open PySem PySem.Spec PyProof.Rows
noncomputable def zEp (K:PySem.W.Frag) (C fI:Addr) (bmB:List Value) (newId:String):Bool:=(match K.lookup C with
 | some ⟨.type "type",_,.cls cd,sl⟩=>(match cd.mro,sl.toList with
  | .ref C'::bm,[_,_,_,_,some (.builtin n),_]=>C' == C && n == newId && !cd.hasDel && PySem.W.tailIn K bmB bm && PySem.W.nsOkIn K cd.ns && PySem.W.nsIn K cd.ns "__init__" == some (some (.ref fI))
  | _,_=>false)
 | _=>false) && PySem.W.typeIn K (.ref fI) == some (.type "function")
theorem zS5 {K:PySem.W.Frag}{h:Heap}{N:Addr}{mN:Str->Option Value}{n:Str}{v:Value}(X:K.In h) (G:h.Ns N mN) (e:PySem.W.nsIn K N n=some (some v)):mN n=some v:=by
 obtain⟨ob,es,ep,at_,dt,-,fd⟩:=G
 unfold PySem.W.nsIn at e;split at e
 ·rename_i lk
  have z:=X _ _ lk;rw[at_]at z;cases z;cases dt
  split at e
  ·rename_i fnd
   cases e;rw[<- fd,nsFind,findBy,<- Array.find?_toList,fnd];rfl
  ·split at e <;> cases e
 ·cases e
theorem zKn {K:PySem.W.Frag}{h:Heap}{C fI:Addr}{bmB:List Value}{newId:String}(X:K.In h) (q:zEp K C fI bmB newId=true):
  ∃bm N nm qn bs hd sn sub ab col dd k0 k1 k2 k3 k5,h.get? C=some (excClassObj nm qn C N bs bm hd sn sub ab col dd k0 k1 k2 k3 k5 newId)/\h.Ns N (h.nsMap N)/\h.nsMap N "__init__"=some (.ref fI)/\OwnTail h bmB bm:=by
 unfold zEp at q
 rw[xg]at q
 replace q:=q.1
 split at q
 ·rename_i dd cd sl ho
  split at q
  ·rename_i C' bm k0 k1 k2 k3 n k5 hm hs
   simp only[xg,xA,x5]at q
   obtain⟨⟨⟨⟨⟨rfl,rfl⟩,hdel⟩,ht⟩,hok⟩,hni⟩:=q
   obtain⟨nm,bs,mro,ns,qn,hd,sn,sub,ab,col,del⟩:=cd
   dsimp only at hm hdel hok hni
   subst hm hdel
   have hsl:sl=#[k0,k1,k2,k3,some (.builtin n),k5]:=by
    obtain⟨l⟩:=sl
    simp only at hs
    rw[hs]
   subst hsl
   have hn:h.Ns ns (h.nsMap ns):=.of_isNs (PySem.W.isNs_of_in X hok)
   exact⟨bm,ns,nm,qn,bs,hd,sn,sub,ab,col,dd,k0,k1,k2,k3,k5,X _ _ ho,hn,zS5 X hn hni,PySem.W.tail_of_in X ht⟩
  ·cases q
 ·cases q
noncomputable def zDz (K:PySem.W.Frag) (C:Addr):Bool:=match K.lookup C with
 | some ⟨.type "type",_,.cls cd,sl⟩=>(match cd.mro,sl.toList with
  | .ref C'::bm,[_,_,_,_,some (.builtin _),_]=>C' == C && !cd.hasDel && bm.contains (.type "BaseException")
  | _,_=>false)
 | _=>false
theorem zI9 {K:PySem.W.Frag}{h:Heap}{C:Addr}(X:K.In h) (q:zDz K C=true):
  ∃bm N nm qn bs hd sn sub ab col dd k0 k1 k2 k3 k5 newId,h.get? C=some (excClassObj nm qn C N bs bm hd sn sub ab col dd k0 k1 k2 k3 k5 newId)/\bm.contains (.type "BaseException")=true:=by
 unfold zDz at q
 split at q
 ·rename_i dd cd sl ho
  split at q
  ·rename_i C' bm k0 k1 k2 k3 n k5 hm hs
   simp only[xg,xA,x5]at q
   obtain⟨⟨rfl,hdel⟩,hB⟩:=q
   obtain⟨nm,bs,mro,ns,qn,hd,sn,sub,ab,col,del⟩:=cd
   dsimp only at hm hdel
   subst hm hdel
   obtain⟨l⟩:=sl
   simp only at hs
   subst hs
   exact⟨bm,ns,nm,qn,bs,hd,sn,sub,ab,col,dd,k0,k1,k2,k3,k5,n,X _ _ ho,hB⟩
  ·cases q
 ·cases q
section
variable {X:Cx}{CX:CXT}{k:Nat}{f C:Addr}{fd:FuncData}{ps:List Str}{sp:Sp}{E:XK}{x:Str}{p pos:Pos}{e:Expr}{es:List Expr}{t:TA}{B newId initId:String}{bmB:List Value}
theorem zM7 {pins:List (Addr × Obj)}{σ:St}{H:Hp}{s:Shared}{Q:VK}{us:List Value}{vs:List V}(FB:ExcBaseFacts B newId initId bmB) (M:zEp X.K C f bmB newId=true) (F:FnOk X.prog X.w X.K X.mg X.base CX k f fd ps sp) (hr:Room (k+1) X.A) (hb:Binds X.K fd ps [])
  (hx:Passes CX X E) (I:Inv X pins σ H s) (r:Vals vs us) (hz:us.length<=1000)
  (h:∀a,H a=none->sp (.ref a::vs) (upd H a (.ext (XO a C none true))) (fun v H2=>v=.non/\Q (.ref a) H2) E):
  wpAny (model X.prog X.w) X.A (call (.ref C) us) (EP X pins σ Q) X.xe s:=by
 have hq:=h (s.heap.objs.size+1) (I.hok.fresh (vm _))
 have ft:PySem.W.typeIn X.K (.ref f)=some (.type "function"):=by
  unfold zEp at M
  rw[xg]at M
  exact xA.mp M.2
 obtain⟨bm,N,nm,qn,bs,hd,sn,sub,ab,col,dd,k0,k1,k2,k3,k5,hC,hn,hi,T⟩:=zKn I.kIn M
 obtain⟨oI,hoI,hcI⟩:∃oI,s.heap.get? f=some oI/\oI.cls=.type "function":=by
  have ft:(X.K.lookup f).map (·.cls)=some (.type "function"):=ft
  cases e:X.K.lookup f with
  | none=>rw[e]at ft;cases ft
  | some o=>rw[e]at ft;exact⟨o,I.kIn _ _ e,by simpa using ft⟩
 have r2:Vals (V.ref (s.heap.objs.size+1)::vs) (Value.ref (s.heap.objs.size+1)::us):=.cons rfl r
 have hl:(Value.ref (s.heap.objs.size+1)::us++[]).length=ps.length:=by
  rw[vo,<- r2.length]
  exact F.len _ _ _ _ hq
 refine zGj FB T hC hn hi hoI hcI (fun h' m=>?_) (xq hz (by decide))
 obtain⟨tt,ht,_,_⟩:=m.there
 have I2:Inv X pins σ (upd H (s.heap.objs.size+1) (.ext (XO (s.heap.objs.size+1) C none true))) { s with heap:=h' }:=I.laid (t':=s.toks) m.keeps (vm _) (XO.ok ⟨_,_,ht,(show 1<6 by decide),fun _=>rfl⟩)
 refine wpAny_call (codeAny_mono (F.run _ X.stack _ _ ⟨Value.ref (s.heap.objs.size+1)::us,[]⟩ (Value.ref (s.heap.objs.size+1)::us) _ _ E (hr.make C us []) (I2.env0.make C us []) (by have:=hb { s with heap:=h' } (Value.ref (s.heap.objs.size+1)::us) I2.kIn hl;rwa[vo]at this) r2 hq) fun r s' hq'=>?_)
 cases r with
 | error e=>exact hx pins σ _ _ e s' I2 hq'
 | ok fl=>
  cases fl with
  | ret u=>
   obtain⟨v,H',I3,rv,ev,q3⟩:=I2.after hq'
   subst ev
   exact⟨rv,V.ref (s.heap.objs.size+1),H',I3,rfl,q3⟩
  | next=>exact False.elim hq'
  | brk=>exact False.elim hq'
  | cont=>exact False.elim hq'
end
end L2
namespace L2
open PySem PySem.Spec PyProof.Rows
section
variable {X:Cx}{e o value:Expr}{f:Str}{pos pos':Pos}{te ta tv:TE}{a C:Addr}
noncomputable def sXF (K:PySem.W.Frag) (ta tv:TE) (f:Str):TS:=fun D σ H=>tv σ H fun y H1=>ta σ H1 fun x H2=>∃a C fr,x=.ref a/\H2 a=some (.ext (XO a C none fr))/\ClsE K C/\NoAttr K C f /\
 ∀dx,H2 dx=none->dx≠a->D.nx σ (upd (upd H2 a (.ext (XO a C (some dx) fr))) dx (.xd [(f,y)]))
theorem zRu (ha:PE X o ta) (hv:PE X value tv) (hs:swapsWith value (some (.Attribute o f pos')) pos.line X.env=pure false):PS X (.Assign [.Attribute o f pos'] value pos) (sXF X.K ta tv f):=by
 intro pins s σ H D I h
 refine plainObj_wpAny_Assign_Attribute (thn (hv pins s σ H _ I h) fun u s1 ⟨y,H1,I1,ry,q⟩=>thn (ha pins s1 σ H1 _ I1 q) fun ov s2 hq1=>?_) hs
 obtain⟨x,H2,I2,rx,a,C,fr,ex,ea,c,n,q2⟩:=hq1
 subst ex
 obtain rfl:ov=Value.ref a:=rx
 exact zM3 I2 ea c n ry fun s3 dx h1 h2 I3=>⟨σ,_,I3,q2 dx h1 h2⟩
noncomputable def tXF (K:PySem.W.Frag) (ta:TE) (f:Str):TE:=fun σ H Q=>ta σ H fun x H1=>∃a C dx fr fs v,x=.ref a/\H1 a=some (.ext (XO a C (some dx) fr))/\H1 dx=some (.xd fs)/\ClsE K C/\NoAttr K C f/\fs.lookup f=some v/\Q v H1
theorem zRw (he:PE X e ta) (hb:attributeBase e f X.env (eval e X.env)=eval e X.env):PE X (.Attribute e f pos) (tXF X.K ta f):=by
 intro pins s σ H Q I h
 refine zOu hb (thn (he pins s σ H _ I h) fun u s1 hq1=>?_)
 obtain⟨x,H1,I1,rx,a,C,dx,fr,fs,v,ex,ea,ed,c,n,l,q⟩:=hq1
 subst ex
 obtain rfl:u=Value.ref a:=rx
 exact zNv I1 ea ed c n l fun u' s2 I2 ru=>⟨v,H1,I2,ru,q⟩
end
end L2
namespace L2
open PySem PySem.Spec PyProof.Rows
section
variable {X:Cx}{pins:List (Addr × Obj)}{σ:St}{H:Hp}{s:Shared}{a C:Addr}{dx old:Option Addr}{fr:Bool}{h':Heap}
noncomputable def Own (X:Cx):Prop:=X.stack=X.env::X.outer/\X.env.frame=some X.env.locals
theorem Own.frs {X:Cx}(o:Own X):L2.frs X.stack=X.env.locals::X.fs:=by
 rw[o.1]
 show List.filterMap (·.frame) (X.env::X.outer)=_
 rw[vL,o.2]
 rfl
noncomputable def zRk (X:Cx) (pins:List (Addr × Obj)) (H:Hp) (old:Option Addr):Prop:=∀T,old=some T->FpOk X pins H T
theorem Inv.noted (I:Inv X pins σ H s) (ow:Own X) (ea:H a=some (.ext (XO a C dx fr))) (N:Noted (frs X.stack) a old s.heap h') (ho:zRk X pins H old):Inv X pins σ (upd H a (.ext (XO a C dx false))) { s with heap:=h' }:=by
 have na:∀b,H b=none->b≠a:=fun b n z=>by rw[z,ea]at n;cases n
 have frn:=I.stkFree
 have keepT:∀c o u,H c=some o->c≠a->s.heap.get? c=some u->h'.get? c=some u:=fun c o u hc hca e=>N.keep c u (fun z=>by rw[frn c z]at hc;cases hc) hca (fun z=>by rw[(ho c z).1]at hc;cases hc) e
 have up:∀b o,H b=some o->b≠a->upd H a (.ext (XO a C dx false)) b=some o:=fun b o e n=>by rw[zA3 n];exact e
 have nk:∀b o,H b=some o->(∀φ,o≠.ext φ)->b≠a:=fun b o e n z=>by subst z;rw[ea]at e;cases e;exact n _ rfl
 refine I.step (g':=s.gens) (d':=s.drawn) (t':=s.toks) (ch:=old.toList) (fun b hb=>?_) (fun b o h1 h2 h3 e n=>?_) (fun b o h1 h2 h3 e n=>?_) (fun b o h3 e n=>?_) (fun b o h3 e=>?_) (fun b xs e=>?_) (fun b o u e=>?_) (fun b ps e=>?_) (fun m hn=>?_) (fun b o e=>?_) I.bare
 ·obtain⟨_,f1,_,f3,f4,f5⟩:=ho b (by simpa using hb)
  exact⟨f3,f1,f4,f5⟩
 ·exact N.keep b o (by rw[ow.frs];simp only[xC,not_or];exact⟨h1,h2⟩) (na b n) (by simpa using h3) e
 ·exact N.slot b o (by rw[ow.frs];exact .tail _ h2) e
 ·rw[zA3 (na b n)];exact n
 ·by_cases z:b=a
  ·subst z
   obtain⟨⟨vs,sl,hx,_⟩,_⟩:=I.hok b _ ea
   exact⟨_,N.exc _ vs hx rfl⟩
  ·by_cases q:b∈frs X.stack
   ·obtain⟨sl,e'⟩:=N.slot b o q e
    exact⟨_,e'⟩
   ·exact⟨o,N.keep b o q z (by simpa using h3) e⟩
 ·exact up _ _ e (nk _ _ e (by intro φ z;cases z))
 ·exact up _ _ e (nk _ _ e (by intro φ z;cases z))
 ·exact⟨#[],by rw[up _ _ e (nk _ _ e (by intro φ z;cases z))];simp⟩
 ·obtain⟨o,es,ep,e1,e2,r⟩:=hn
  obtain⟨sl,e'⟩:=N.slot X.env.locals o (by rw[ow.frs];exact .head _) e1
  exact⟨_,es,ep,e',e2,r⟩
 ·by_cases z:b=a
  ·subst z
   rw[zA5]at e;cases e
   obtain⟨⟨vs,sl,hx,hz,_⟩,_⟩:=I.hok b _ ea
   exact XO.ok ⟨_,sl,N.exc _ vs hx rfl,by simpa using hz,fun q=>by cases q⟩
  ·rw[zA3 z]at e
   refine(I.hok b o e).stay (fun c u hc q=>?_) (fun c q=>?_) fun c xs q=>up _ _ q (nk _ _ q (by intro φ z;cases z))
   ·rcases hc with rfl|hc
    ·exact keepT _ _ u e z q
    ·exact keepT _ _ u hc (nk _ _ hc (by intro φ z;cases z)) q
   ·exact up _ _ q (nk _ _ q (by intro φ z;cases z))
end
end L2
namespace L2
open PySem PySem.Spec PyProof.Rows
noncomputable def FlyI (X:Cx) (pins:List (Addr × Obj)) (σ:St) (H:Hp) (s:Shared) (a:Addr):Prop:=Inv X pins σ H s/\∃C dx fr vs sl old,H a=some (.ext (XO a C dx fr))/\s.heap.get? a=some ⟨.ref C,dx,.fields vs,sl⟩/\Tbk s.heap a vs old/\zRk X pins H old
noncomputable def CXE (P:Program) (w:World):CXT:=fun outer H s E e s'=>∃a H' C dx vs sl T,e=.ref a/\s'.os=s.os/\AllBare s'.gens/\Un (frs outer) [] H H' s.heap s'.heap/\HOk P w H' s'.heap /\
 H' a=some (.ext (XO a C dx false))/\s'.heap.get? a=some ⟨.ref C,dx,.fields vs,sl⟩/\Tbk s'.heap a vs (some T)/\H' T=none/\s.heap.objs.size<=T/\E e none H'
section
variable {X:Cx}{pins:List (Addr × Obj)}{σ:St}{H:Hp}{s:Shared}{a C:Addr}{dx:Option Addr}
theorem FlyI.new (I:Inv X pins σ H s) (ea:H a=some (.ext (XO a C dx true))):FlyI X pins σ H s a:=by
 obtain⟨⟨vs,sl,he,hz,hf⟩,_⟩:=I.hok a _ ea
 exact⟨I,C,dx,true,vs,sl,none,ea,he,hf rfl,fun T e=>by cases e⟩
end
end L2
namespace L2
open PySem PySem.Spec PyProof.Rows
section
variable {X:Cx}{pins:List (Addr × Obj)}{σ:St}{H:Hp}{s:Shared}{h':Heap}{j:Nat}{n:Str}
theorem Inv.unset {t':Nat}{m:Str->Option Value}{v:Option Value}(I:Inv X pins σ H s) (hN:X.N.Nodup) (hj:X.N[j]?=some n) (hm:s.heap.Ns X.env.locals m) (hv:h'.Ns X.env.locals (fun x=>if x=n then v else m x)) (sb:Heap.SameBut X.env.locals s.heap h'):Inv X pins (σ.set j none) H { s with heap:=h',toks:=t' }:=by
 have kp:∀b o,b≠X.env.locals->s.heap.get? b=some o->h'.get? b=some o:=fun b o hb e=>(sb.2 b hb).trans e
 have th:∀b o,s.heap.get? b=some o->∃o',h'.get? b=some o':=fun b o e=>by
  by_cases z:b=X.env.locals
  ·subst z
   obtain⟨o',_,_,e',_⟩:=hv
   exact⟨o',e'⟩
  ·exact⟨o,kp b o z e⟩
 have neL:∀b o,X.s₀.heap.get? b=some o->b≠X.env.locals:=fun b o e=>xo (xn (xi e) I.ok.above)
 obtain⟨m0,hm0,lk⟩:=I.loc
 have em:m0=m:=by
  obtain⟨o1,es1,ep1,a1,b1,_,c1⟩:=hm0
  obtain⟨o2,es2,ep2,a2,b2,_,c2⟩:=hm
  rw[a1]at a2;cases a2;rw[b1]at b2;cases b2
  exact funext fun x=>(c1 x).symm.trans (c2 x)
 subst em
 refine⟨I.ok,I.os,I.bare,⟨fun b o e q hb hx=>kp b o (neL b o e) (I.base.keep b o e q hb hx),fun b o e q hb hx=>?_,I.base.free,fun b o e hx=>?_,I.base.tups,I.base.frzs,I.base.tbls⟩,⟨_,hv,fun i x u e1 e2 e3=>?_⟩,fun x c e=>?_,I.free,I.freeC,fun p hp=>?_,fun b o e=>?_,by rw[List.length_set];exact I.len⟩
 ·obtain⟨sl,e'⟩:=I.base.slot b o e q hb hx
  exact⟨sl,kp b _ (neL b o e) e'⟩
 ·obtain⟨o',e'⟩:=I.base.there b o e hx
  exact th b o' e'
 ·have hij:i≠j:=fun z=>by
   subst z
   by_cases hl:i<σ.length
   ·rw[xF hl]at e2;cases e2
   ·rw[x9 (by rw[List.length_set];lia)]at e2;cases e2
  rw[xr (xk hij)]at e2
  have hxn:x≠n:=fun z=>by
   subst z
   exact hij ((List.getElem?_inj (xu.mp e1).1 hN).mp (e1.trans hj.symm))
  obtain⟨w,r,l⟩:=lk i x u e1 e2 e3
  refine⟨w,r,?_⟩
  rcases l with⟨k,q⟩|⟨k,c,e,o,ho,hd⟩
  ·exact .inl ⟨k,by show(if x=n then v else m0 x)=some w;rw[xc hxn];exact q⟩
  ·exact .inr ⟨k,c,e,o,kp c o (I.cne x c e) ho,hd⟩
 ·obtain⟨v,o,ho,hd⟩:=I.cell x c e
  exact⟨v,o,kp c o (I.cne x c e) ho,hd⟩
 ·obtain⟨e,q,ne,r⟩:=I.pin p hp
  exact⟨kp _ _ ne e,q,ne,r⟩
 ·have tk:∀c u,H c=some u->c≠X.env.locals:=fun c u q z=>by rw[z,I.free]at q;cases q
  refine(I.hok b o e).stay (fun c u hc q=>kp c u ?_ q) (fun _ q=>q) fun _ _ q=>q
  rcases hc with rfl|hc
  ·exact tk _ _ e
  ·exact tk _ _ hc
noncomputable def Cx.handl (X:Cx) (v:Value) (E:Value->Shared->Prop):Cx:={ X with A:=X.A.mark (some v),calm:=false,xe:=E }
theorem Inv.handl {v:Value}{E:Value->Shared->Prop}(I:Inv X pins σ H s):Inv (X.handl v E) pins σ H s:=
 ⟨⟨I.ok.mod,I.ok.kind,I.ok.glob,I.ok.blt,I.ok.above,I.ok.inj,I.ok.has,I.ok.cab,fun z=>(by cases z),I.ok.frames,I.ok.stk,I.ok.exf,I.ok.bs,I.ok.bsz,I.ok.noex,I.ok.exfs,I.ok.funs,I.ok.frf,I.ok.gds⟩,I.os,I.bare,I.base,I.loc,I.cell,I.free,I.freeC,I.pin,I.hok,I.len⟩
theorem Inv.unhandl {v:Value}{E:Value->Shared->Prop}(ok:X.Ok) (I:Inv (X.handl v E) pins σ H s):Inv X pins σ H s:=⟨ok,I.os,I.bare,I.base,I.loc,I.cell,I.free,I.freeC,I.pin,I.hok,I.len⟩
end
end L2
namespace L2
open PySem PySem.Spec PyProof.Rows
noncomputable abbrev XPost (X:Cx) (pins:List (Addr × Obj)) (σ:St) (R:Addr->Hp->Prop):Value->Shared->Prop:=fun v s'=>∃a H',v=.ref a/\FlyI X pins σ H' s' a/\R a H'
noncomputable abbrev TX:=St->Hp->VK->(Addr->Hp->Prop)->Prop
theorem zOx {M:Model}{h:Heap}{a:Addr}{o:Obj}(he:h.get? a=some o):PySem.W.Looks M h (typeOf (.ref a)) o.cls:=fun A Q E s k q=>xa (wpAny_loadPart (k _ _ he) (xf q))
theorem zI3 {M:Model}{A:Around}{E:Value->Shared->Prop}{s:Shared}{a T:Addr}{oe oT:Obj}{vs ts:Array Value}{Q:Unit->Shared->Prop}(he:s.heap.get? a=some oe) (hd:oe.data=.fields vs) (h1:vs[1]?=some (.ref T)) (hT:s.heap.get? T=some oT) (hdT:oT.data=.fields ts) (h3:ts[3]?=some .none)
  (h:∀h',Heap.SameBut T s.heap h'->Q () { s with heap:=h' }):wpAny M A (setFlight (.ref a) none) Q E s:=by
 unfold setFlight
 refine xa (x8 he hd h1 ?_)
 rw[xb (show(Value.ref T != Value.none)=true from by simp)]
 exact wpAny_setField hT hdT (vP.mp h3).1 (h _ (.update ..))
end L2
namespace DS
open PySem (Str)
inductive D where
 | non|bl (b:Bool)|int (i:Int)|str (x:Str)|ty (n:String)
 | tup (l:List D)|ktup (l:List D)|lst (l:List D)|klst (l:List D)|dct (t:Bool) (ks vs:List D)|st (l:List D)
 | ref (n:Nat)
noncomputable abbrev Store:=List D
noncomputable abbrev Env:=List (Option D)
structure Exn where
 cls:Str
 fs:List (Str × D)
inductive Rs (α:Type) where
 | ok (a:α) (S:Store)|ex (x:Exn) (S:Store)|bad
inductive SR where
 | nx (e:Env) (S:Store)|rt (d:D) (S:Store)|bk (e:Env) (S:Store)|ct (e:Env) (S:Store)|ex (x:Exn) (S:Store)|bad
noncomputable def Rs.bind {α β:Type}(r:Rs α) (k:α->Store->Rs β):Rs β:=match r with
 | .ok a S=>k a S
 | .ex x S=>.ex x S
 | .bad=>.bad
@[simp] theorem Rs.bind_ok {α β:Type}{a:α}{S:Store}{k:α->Store->Rs β}:(Rs.ok a S).bind k=k a S:=rfl
@[simp] theorem Rs.bind_ex {α β:Type}{x:Exn}{S:Store}{k:α->Store->Rs β}:(Rs.ex x S:Rs α).bind k=.ex x S:=rfl
@[simp] theorem Rs.bind_bad {α β:Type}{k:α->Store->Rs β}:(Rs.bad:Rs α).bind k=.bad:=rfl
noncomputable def Rs.then {α:Type}(r:Rs α) (k:α->Store->SR):SR:=match r with
 | .ok a S=>k a S
 | .ex x S=>.ex x S
 | .bad=>.bad
@[simp] theorem Rs.then_ok {α:Type}{a:α}{S:Store}{k:α->Store->SR}:(Rs.ok a S).then k=k a S:=rfl
@[simp] theorem Rs.then_ex {α:Type}{x:Exn}{S:Store}{k:α->Store->SR}:(Rs.ex x S:Rs α).then k=.ex x S:=rfl
@[simp] theorem Rs.then_bad {α:Type}{k:α->Store->SR}:(Rs.bad:Rs α).then k=.bad:=rfl
noncomputable def lift {α:Type}(o:Option α) (S:Store):Rs α:=match o with
 | some a=>.ok a S
 | none=>.bad
@[simp] theorem zAd {α:Type}{a:α}{S:Store}:lift (some a) S=.ok a S:=rfl
@[simp] theorem zQ8 {α:Type}{S:Store}:lift (none:Option α) S=.bad:=rfl
noncomputable def zNj {α:Type}(o:Option (α × Store)):Rs α:=match o with
 | some a=>.ok a.1 a.2
 | none=>.bad
@[simp] theorem zCv {α:Type}{a:α × Store}:zNj (some a)=.ok a.1 a.2:=rfl
@[simp] theorem zOw {α:Type}:zNj (none:Option (α × Store))=.bad:=rfl
mutual
/-- all refs are below n -/
noncomputable def D.low (n:Nat):D->Bool
 | .ref m=>decide (m<n)
 | .tup l=>lowL n l
 | .lst l=>lowL n l
 | .ktup l=>lowL n l
 | .klst l=>lowL n l
 | .dct _ ks vs=>lowL n ks && lowL n vs
 | .st l=>lowL n l
 | .non=>true
 | .bl _=>true
 | .int _=>true
 | .str _=>true
 | .ty _=>true
noncomputable def lowL (n:Nat):List D->Bool
 | []=>true
 | d::r=>d.low n && lowL n r
end
mutual
/-- numbers,texts,truths,None,tuples and lists of them -/
noncomputable def D.flat:D->Bool
 | .ref _=>false
 | .tup l=>zBp l
 | .lst l=>zBp l
 | .dct _ _ _=>false
 | .ktup _=>false
 | .klst _=>false
 | .st _=>false
 | .ty _=>false
 | .non=>true
 | .bl _=>true
 | .int _=>true
 | .str _=>true
noncomputable def zBp:List D->Bool
 | []=>true
 | d::r=>d.flat && zBp r
end
mutual
/-- they may be compared: of one kind wherever == looks;no refs -/
noncomputable def D.cmp:D->D->Bool
 | .non,.non=>true
 | .bl _,.bl _=>true
 | .int _,.int _=>true
 | .str _,.str _=>true
 | .tup a,.tup b=>cmpL a b
 | .lst a,.lst b=>cmpL a b
 | _,_=>false
noncomputable def cmpL:List D->List D->Bool
 | a::r,b::t=>a.cmp b && cmpL r t
 | _,_=>true
end
mutual
noncomputable def D.dep:D->Nat
 | .tup l=>depL l+1
 | .lst l=>depL l+1
 | .dct _ _ _=>0
 | .ktup _=>0
 | .klst _=>0
 | .st _=>0
 | .non=>0
 | .bl _=>0
 | .int _=>0
 | .str _=>0
 | .ty _=>0
 | .ref _=>0
noncomputable def depL:List D->Nat
 | []=>0
 | d::r=>max d.dep (depL r)
end
noncomputable section
open Classical
noncomputable def look (S:Store):D->Option D
 | .ref n=>S[n]?
 | .ktup l=>some (.tup l)
 | .klst l=>some (.lst l)
 | d=>some d
noncomputable def items (S:Store) (d:D):Option (List D):=match look S d with
 | some (.tup l)=>some l
 | some (.lst l)=>some l
 | _=>none
noncomputable def litems (S:Store) (d:D):Option (List D):=match d with
 | .klst _=>none
 | d=>match look S d with
  | some (.lst l)=>some l
  | _=>none
noncomputable abbrev EM:=Env->Store->Rs D
noncomputable abbrev TM:=Env->Store->Rs Bool
noncomputable abbrev AM:=Env->Store->Rs (List D)
noncomputable abbrev SM:=Env->Store->SR
noncomputable abbrev GM:=Store->D->Env->Option Env
noncomputable abbrev Fn:=List D->Store->Rs D
noncomputable def eVar (i:Nat):EM:=fun env S=>match env[i]? with
 | some (some d)=>.ok d S
 | _=>.bad
noncomputable def eC (d:D):EM:=fun _ S=>.ok d S
noncomputable def eOp (g:Store->D->D->Option D) (a b:EM):EM:=fun env S=>(a env S).bind fun x S1=>(b env S1).bind fun y S2=>lift (g S2 x y) S2
noncomputable def eUn (g:Store->D->Option D) (a:EM):EM:=fun env S=>(a env S).bind fun x S1=>lift (g S1 x) S1
noncomputable def aNil:AM:=fun _ S=>.ok [] S
noncomputable def zA0 (a:EM) (r:AM):AM:=fun env S=>(a env S).bind fun x S1=>(r env S1).bind fun xs S2=>.ok (x::xs) S2
noncomputable def eTup (a:AM):EM:=fun env S=>(a env S).bind fun xs S1=>.ok (.tup xs) S1
noncomputable def eLst (a:AM):EM:=fun env S=>(a env S).bind fun xs S1=>.ok (.lst xs) S1
noncomputable def zKo (ks:List D) (a:AM):EM:=fun env S=>(a env (S++[.dct false [] []])).bind fun vs S1=>if S1[S.length]?=some (.dct false [] [])then .ok (.ref S.length) (S1.set S.length (.dct false ks vs))else .bad
noncomputable def eNew (a:EM):EM:=fun env S=>(a env S).bind fun x S1=>.ok (.ref S1.length) (S1++[x])
noncomputable def eCB (g:Store->List D->Option D) (a:AM):EM:=fun env S=>(a env S).bind fun xs S1=>lift (g S1 xs) S1
noncomputable def zA8 (F:Fn) (a:AM):EM:=fun env S=>(a env S).bind fun xs S1=>F xs S1
noncomputable def tyD (S:Store) (d:D):Option String:=match look S d with
 | some (.str _)=>some "str"
 | some (.lst _)=>some "list"
 | some (.dct _ _ _)=>some "dict"
 | some (.tup _)=>some "tuple"
 | some (.int _)=>some "int"
 | some (.bl _)=>some "bool"
 | some .non=>some "NoneType"
 | some (.st _)=>some "set"
 | _=>none
noncomputable def eMt (T:String) (g:Store->D->List D->Option (D × Store)) (o:EM) (a:AM):EM:=fun env S=>(o env S).bind fun x S1=>if tyD S1 x=some T then(a env S1).bind fun xs S2=>zNj (g S2 x xs)else .bad
noncomputable def asI:D->Option Int
 | .int i=>some i
 | _=>none
noncomputable def pNo:Env->Store->Rs (Option Int):=fun _ S=>.ok none S
noncomputable def pYes (a:EM):Env->Store->Rs (Option Int):=fun env S=>(a env S).bind fun x S1=>lift ((asI x).map some) S1
noncomputable def eSl (g:Store->D->Option Int->Option Int->Option D) (a:EM) (lo hi:Env->Store->Rs (Option Int)):EM:=fun env S=>
 (a env S).bind fun x S1=>(lo env S1).bind fun l S2=>(hi env S2).bind fun h S3=>lift (g S3 x l h) S3
noncomputable def asB:D->Option Bool
 | .bl b=>some b
 | _=>none
noncomputable def tB (a:EM):TM:=fun env S=>(a env S).bind fun x S1=>lift (asB x) S1
noncomputable def most:Nat:=2 ^ 24
noncomputable def tAnd (a b:TM):TM:=fun env S=>(a env S).bind fun c S1=>if c=true then b env S1 else .ok false S1
noncomputable def tOr (a b:TM):TM:=fun env S=>(a env S).bind fun c S1=>if c=true then .ok true S1 else b env S1
noncomputable def tNot (a:TM):TM:=fun env S=>(a env S).bind fun c S1=>.ok (!c) S1
noncomputable def tYes:TM:=fun _ S=>.ok true S
noncomputable def eAnd (a b:EM):EM:=fun env S=>(a env S).bind fun x S1=>(lift (asB x) S1).bind fun c S1=>if c=true then b env S1 else .ok (.bl false) S1
noncomputable def eOr (a b:EM):EM:=fun env S=>(a env S).bind fun x S1=>(lift (asB x) S1).bind fun c S1=>if c=true then .ok (.bl true) S1 else b env S1
noncomputable def eNot (a:EM):EM:=fun env S=>(a env S).bind fun x S1=>(lift (asB x) S1).bind fun c S1=>.ok (.bl (!c)) S1
noncomputable def eIf (c:TM) (a b:EM):EM:=fun env S=>(c env S).bind fun k S1=>if k=true then a env S1 else b env S1
structure Walk where
 its:List D
 gd:List (Nat × D)
noncomputable def gOk (S:Store) (gd:List (Nat × D)):Prop:=∀p∈gd,S[p.1]?=some p.2
noncomputable abbrev IM:=Env->Store->Rs Walk
noncomputable def gdOf (S:Store):D->List (Nat × D)
 | .ref n=>match S[n]? with
  | some d=>[(n,d)]
  | none=>[]
 | _=>[]
noncomputable def chars (x:Str):List D:=x.cps.toList.map fun c=>.str ⟨#[c]⟩
noncomputable def zC4 (S:Store) (d:D):Option Walk:=match look S d with
 | some (.tup l)=>some ⟨l,gdOf S d⟩
 | some (.lst l)=>some ⟨l,gdOf S d⟩
 | some (.str x)=>if x.cps.all (·<128)then some ⟨chars x,[]⟩else none
 | _=>none
noncomputable def iVal (a:EM):IM:=fun env S=>(a env S).bind fun x S1=>lift (zC4 S1 x) S1
noncomputable def fits62 (i:Int):Bool:=decide (-(2 ^ 62)<=i/\i<2 ^ 62)
noncomputable def zCq (i j:Int):List D:=(List.range (j-i).toNat).map fun(k:Nat)=>.int (i+k)
noncomputable def zDb:List D->Option Walk
 | [.int j]=>if fits62 j then some ⟨zCq 0 j,[]⟩else none
 | [.int i,.int j]=>if fits62 i && fits62 j then some ⟨zCq i j,[]⟩else none
 | _=>none
noncomputable def zB3 (a:AM):IM:=fun env S=>(a env S).bind fun xs S1=>lift (zDb xs) S1
noncomputable def gName (i:Nat):GM:=fun _ d env=>some (env.set i (some d))
noncomputable def gAll:List GM->Store->List D->Env->Option Env
 | [],_,[],env=>some env
 | g::gs,S,d::ds,env=>match g S d env with
  | some env'=>gAll gs S ds env'
  | none=>none
 | _,_,_,_=>none
noncomputable def gTup (gs:List GM):GM:=fun S d env=>match items S d with
 | some l=>gAll gs S l env
 | none=>none
noncomputable def zAz (gd:List (Nat × D)) (g:GM) (c:TM) (e:EM):Nat->List D->Env->Store->Rs (List D)
 | _,[],_,S=>if gOk S gd then .ok [] S else .bad
 | k,d::r,env,S=>if gOk S gd/\k<most then(match g S d env with
  | some env'=>(c env' S).bind fun b S1=>if b=true then(e env' S1).bind fun v S2=>(zAz gd g c e (k+1) r env' S2).bind fun vs S3=>.ok (v::vs) S3 else zAz gd g c e k r env' S1
  | none=>.bad)else .bad
noncomputable def compEnv (own:Nat) (ix:List Nat) (env:Env):Env:=List.replicate own none++ix.map fun i=>(env[i]?).join
noncomputable def zAn (own:Nat) (ix:List Nat) (i:IM) (g:GM) (c:TM) (e:EM):EM:=fun env S=>
 (i env S).bind fun w S1=>(zAz w.gd g c e 0 w.its (compEnv own ix env) S1).bind fun vs S2=>.ok (.lst vs) S2
noncomputable def zDp:SM:=fun env S=>.nx env S
noncomputable def sSeq (a b:SM):SM:=fun env S=>match a env S with
 | .nx e S1=>b e S1
 | r=>r
noncomputable def sSet (i:Nat) (e:EM):SM:=fun env S=>(e env S).then fun d S1=>.nx (env.set i (some d)) S1
noncomputable def sUnp (g:GM) (e:EM):SM:=fun env S=>(e env S).then fun d S1=>match g S1 d env with
 | some env'=>.nx env' S1
 | none=>.bad
noncomputable def zC8 (e:EM):SM:=fun env S=>(e env S).then fun _ S1=>.nx env S1
noncomputable def sRet (e:EM):SM:=fun env S=>(e env S).then fun d S1=>.rt d S1
noncomputable def zRp:SM:=fun _ S=>.rt .non S
noncomputable def sIf (c:TM) (a b:SM):SM:=fun env S=>(c env S).then fun k S1=>if k=true then a env S1 else b env S1
noncomputable def zGz:List Nat->List D->Env->Option Env
 | [],[],env=>some env
 | i::is,d::ds,env=>zGz is ds (env.set i (some d))
 | _,_,_=>none
noncomputable def sPar (is:List Nat) (a:AM):SM:=fun env S=>(a env S).then fun ds S1=>match zGz is ds env with
 | some env'=>.nx env' S1
 | none=>.bad
noncomputable def sPut (g:Store->D->D->D->Option Store) (o i v:EM):SM:=fun env S=>(v env S).then fun y S1=>(o env S1).then fun x S2=>(i env S2).then fun k S3=>match g S3 x k y with
 | some S4=>.nx env S4
 | none=>.bad
noncomputable def forL (gd:List (Nat × D)) (g:GM) (b:SM):List D->Env->Store->SR
 | [],env,S=>if gOk S gd then .nx env S else .bad
 | d::r,env,S=>if gOk S gd then(match g S d env with
  | some env'=>(match b env' S with
   | .nx e S1=>forL gd g b r e S1
   | .ct e S1=>forL gd g b r e S1
   | .bk e S1=>.nx e S1
   | q=>q)
  | none=>.bad)else .bad
noncomputable def sFor (i:IM) (g:GM) (b:SM):SM:=fun env S=>(i env S).then fun w S1=>forL w.gd g b w.its env S1
noncomputable def zAf (c:TM) (b:SM):Nat->Env->Store->SR
 | 0,_,_=>.bad
 | n+1,env,S=>(c env S).then fun k S1=>if k=true then(match b env S1 with
   | .nx e S2=>zAf c b n e S2
   | .ct e S2=>zAf c b n e S2
   | .bk e S2=>.nx e S2
   | q=>q)else .nx env S1
noncomputable def zC7 (c:TM) (b:SM):SM:=fun env S=>if h:∃n,zAf c b n env S≠.bad then zAf c b (choose h) env S else .bad
theorem zAw {c:TM}{b:SM}:∀{n:Nat}{env:Env}{S:Store},zAf c b n env S≠.bad->∀m,n<=m->zAf c b m env S=zAf c b n env S
 | 0,_,_,h,_,_=>absurd rfl h
 | n+1,env,S,h,m,hm=>by
  obtain⟨m,rfl⟩:∃k,m=k+1:=⟨m-1,by nofun⟩
  unfold zAf at h ⊢
  cases hc:c env S with
  | ok k S1=>
   rw[hc]at h
   simp only[Rs.then_ok]at h ⊢
   by_cases hk:k=true
   ·rw[xb hk]at h ⊢
    rw[xb hk]
    cases hb:b env S1 with
    | nx e S2=>rw[hb]at h;exact zAw h m (by nofun)
    | ct e S2=>rw[hb]at h;exact zAw h m (by nofun)
    | _=>rfl
   ·rw[xc hk,xc hk]
  | ex x S1=>rfl
  | bad=>rfl
theorem zH2 {c:TM}{b:SM}{n:Nat}{env:Env}{S:Store}(h:zAf c b n env S≠.bad):zC7 c b env S=zAf c b n env S:=by
 unfold zC7
 have hx:∃n,zAf c b n env S≠.bad:=⟨n,h⟩
 rw[dif_pos hx]
 have h1:=choose_spec hx
 rw[<- zAw h1 (max (choose hx) n) (Nat.le_max_left _ _),<- zAw h (max (choose hx) n) (Nat.le_max_right _ _)]
noncomputable def keeps (n:Nat):Store->Store->Prop
 | [],_=>True
 | a::r,b::t=>(a=b\/b.low n=true)/\keeps n r t
 | _::_,[]=>False
noncomputable def fin (S:Store) (d:D) (S':Store):Rs D:=
 if keeps S.length S S' then
  if d.low S.length=true then .ok d (S'.take S.length)
  else match d with
   | .ref n=>match S'[n]? with
    | some c=>if c.low S.length=true then .ok c (S'.take S.length)else .ok d S'
    | none=>.bad
   | _=>.ok d S'
 else .ok d S'
noncomputable def zAt (np nl:Nat) (b:SM):Fn:=fun ds S=>if ds.length=np then
  (match b (ds.map some++List.replicate (nl-np) none) S with
  | .nx _ S'=>fin S .non S'
  | .rt d S'=>fin S d S'
  | .ex x S'=>.ex x S'
  | _=>.bad)
 else .bad
noncomputable def zCm (np nl:Nat) (b:SM):Fn:=fun ds S=>if ds.length=np then
  (match b (ds.map some++List.replicate (nl-np) none) S with
  | .nx _ S'=>.ok .non S'
  | .rt d S'=>.ok d S'
  | .ex x S'=>.ex x S'
  | _=>.bad)
 else .bad
end
end DS
namespace L2
open PySem PySem.Spec PyProof.Rows
open DS (D Store Exn Rs SR)
noncomputable abbrev Js:=List Addr
noncomputable def TAt (K:PySem.W.Frag) (J:Js) (H:Hp) (a:Addr) (xs:List V):Prop:=H a=some (.tup xs)/\a ∉ J
noncomputable def KAt (K:PySem.W.Frag) (a:Addr) (xs:List V):Prop:=∃(o:Obj) (its:Array Value) (n:Nat),K.lookup a=some o/\o.cls=.type "tuple"/\o.data=.seq its n/\its.size<=sizeLine/\Vals xs its.toList
noncomputable def LAt (K:PySem.W.Frag) (J:Js) (H:Hp) (a:Addr) (xs:List V):Prop:=H a=some (.lst xs)/\a ∉ J
noncomputable def SAt (K:PySem.W.Frag) (J:Js) (H:Hp) (a:Addr) (xs:List V):Prop:=
 (Rd H a (.lst xs)/\a ∉ J)\/∃(o:Obj) (its:Array Value) (n:Nat),K.lookup a=some o/\o.cls=.type "list"/\o.dict=none/\o.data=.seq its n/\its.size<=sizeLine/\Vals xs its.toList
noncomputable def keyD:Key->D
 | .inl i=>.int i
 | .inr x=>.str x
noncomputable def zLx (k:List Key):D:=.tup (k.map keyD)
noncomputable def DOb (o:HO) (t:Bool) (ks:List D) (xs:List V):Prop:=
 (t=false/\∃kvs:List (Key × V),o=.dK kvs/\ks=kvs.map (fun p=>keyD p.1)/\xs=kvs.map (·.2)) \/
  (t=true/\∃kvs:List (List Key × V),o=.dT kvs/\ks=kvs.map (fun p=>zLx p.1)/\xs=kvs.map (·.2))
noncomputable def XFs (J:Js) (H:Hp) (dx:Option Addr) (xs:List (Str × V)):Prop:=(dx=none/\xs=[])\/∃d,dx=some d/\d ∉ J/\H d=some (.xd xs)
mutual
noncomputable def Rep (K:PySem.W.Frag) (J:Js) (H:Hp):D->V->Prop
 | .non,v=>v=.non
 | .bl b,v=>v=.bl b
 | .int i,v=>v=.int i
 | .str x,v=>v=.str x
 | .ty n,v=>v=.ty n
 | .tup ds,v=>∃a xs,v=.ref a/\TAt K J H a xs/\RepL K J H ds xs
 | .lst ds,v=>∃a xs,v=.ref a/\LAt K J H a xs/\RepL K J H ds xs
 | .ktup ds,v=>∃a xs,v=.ref a/\KAt K a xs/\RepL K J H ds xs
 | .klst ds,v=>∃a xs,v=.ref a/\SAt K J H a xs/\RepL K J H ds xs
 | .dct t ks vs,v=>∃a o xs,v=.ref a/\a ∉ J/\Rd H a o/\DOb o t ks xs/\RepL K J H vs xs
 | .st l,v=>∃a C dx fr xs,v=.ref a/\a ∉ J/\H a=some (.ext (XO a C dx fr))/\XFs J H dx xs/\RepX K J H C l xs
 | .ref n,v=>∃a,J[n]?=some a/\v=.ref a
/-- an exception as a datum: its class's address,its fields -/
noncomputable def RepX (K:PySem.W.Frag) (J:Js) (H:Hp) (C:Addr):List D->List (Str × V)->Prop
 | [],_=>False
 | .int c::l,xs=>c=(C:Int)/\RepF K J H l xs
 | _::_,_=>False
noncomputable def RepF (K:PySem.W.Frag) (J:Js) (H:Hp):List D->List (Str × V)->Prop
 | [],xs=>xs=[]
 | .str f::d::l,xs=>∃x r,xs=(f,x)::r/\Rep K J H d x/\RepF K J H l r
 | _::_,_=>False
noncomputable def RepL (K:PySem.W.Frag) (J:Js) (H:Hp):List D->List V->Prop
 | [],xs=>xs=[]
 | d::ds,xs=>∃x r,xs=x::r/\Rep K J H d x/\RepL K J H ds r
end
noncomputable def ObD (K:PySem.W.Frag) (J:Js) (H:Hp):D->HO->Prop
 | .lst ds,o=>∃xs,o=.lst xs/\RepL K J H ds xs
 | .dct t ks vs,o=>∃xs,DOb o t ks xs/\RepL K J H vs xs
 | _,_=>False
noncomputable def RepO (K:PySem.W.Frag) (J:Js) (H:Hp) (d:D) (a:Addr):Prop:=∃o,H a=some o/\ObD K J H d o
structure AbS (K:PySem.W.Frag) (J:Js) (S:Store) (H:Hp):Prop where
 len:J.length=S.length
 nd:J.Nodup
 ob:∀(i:Nat) (a:Addr) (d:D),J[i]?=some a->S[i]?=some d->RepO K J H d a
noncomputable def Fz (o:HO) (x:Option HO):Prop:=x=some o\/((∃kvs,o=.dT kvs)/\∃ob,x=some (.frz ob o))
theorem Fz.tup {xs:List V}{x:Option HO}(h:Fz (.tup xs) x):x=some (.tup xs):=by
 rcases h with h|⟨⟨_,z⟩,_⟩
 ·exact h
 ·cases z
theorem Fz.lst {xs:List V}{x:Option HO}(h:Fz (.lst xs) x):x=some (.lst xs):=by
 rcases h with h|⟨⟨_,z⟩,_⟩
 ·exact h
 ·cases z
theorem Fz.ext {q:Heap->Prop}{x:Option HO}(h:Fz (.ext q) x):x=some (.ext q):=by
 rcases h with h|⟨⟨_,z⟩,_⟩
 ·exact h
 ·cases z
theorem Fz.xd {xs:List (Str × V)}{x:Option HO}(h:Fz (.xd xs) x):x=some (.xd xs):=by
 rcases h with h|⟨⟨_,z⟩,_⟩
 ·exact h
 ·cases z
theorem Fz.frz {ob:Obj}{u:HO}{x:Option HO}(h:Fz (.frz ob u) x):x=some (.frz ob u):=by
 rcases h with h|⟨⟨_,z⟩,_⟩
 ·exact h
 ·cases z
structure Grow (J:Js) (H:Hp) (J':Js) (H':Hp):Prop where
 pre:∀(i:Nat) (a:Addr),J[i]?=some a->J'[i]?=some a
 new:∀a∈J',a ∉ J->H a=none
 keep:∀b o,b ∉ J->H b=some o->Fz o (H' b)
 dom:∀b,H' b=none->H b=none
structure RepE (K:PySem.W.Frag) (J:Js) (H:Hp) (env:DS.Env) (σ:St):Prop where
 len:env.length=σ.length
 get:∀(i:Nat) (d:D),env[i]?=some (some d)->∃v,σ[i]?=some (some v)/\Rep K J H d v
section
variable {K:PySem.W.Frag}{J J' J1 J2:Js}{H H' H1 H2:Hp}{a:Addr}{d:D}{v:V}{S S':Store}{env:DS.Env}{σ:St}
theorem Grow.refl:Grow J H J H:=⟨fun _ _ h=>h,fun _ h n=>absurd h n,fun _ _ _ h=>.inl h,fun _ h=>h⟩
theorem Grow.trans (g:Grow J H J1 H1) (k:Grow J1 H1 J2 H2):Grow J H J2 H2 where
 pre:=fun i a h=>k.pre i a (g.pre i a h)
 new:=fun a h n=>by
  by_cases z:a∈J1
  ·exact g.new a z n
  ·exact g.dom a (k.new a h z)
 keep:=fun b o n h=>by
  have n1:b ∉ J1:=fun z=>by rw[g.new b z n]at h;cases h
  rcases g.keep b o n h with e|⟨z,ob,e⟩
  ·exact k.keep b o n1 e
  ·exact .inr ⟨z,ob,(k.keep b _ n1 e).frz⟩
 dom:=fun b h=>g.dom b (k.dom b h)
theorem Grow.out {o:HO}(g:Grow J H J' H') (n:a ∉ J) (h:H a=some o):a ∉ J':=fun z=>by rw[g.new a z n]at h;cases h
theorem Grow.rd {u:HO}(g:Grow J H J' H') (n:a ∉ J) (h:Rd H a u):Rd H' a u/\a ∉ J':=by
 rcases h with h|⟨o,h⟩
 ·refine⟨?_,g.out n h⟩
  rcases g.keep _ _ n h with e|⟨_,ob,e⟩
  ·exact .inl e
  ·exact .inr ⟨ob,e⟩
 ·exact⟨.inr ⟨o,(g.keep _ _ n h).frz⟩,g.out n h⟩
theorem TAt.sq {xs:List V}(h:TAt K J H a xs):SqT K H a xs:=.inl (.inl h.1)
theorem KAt.sq {xs:List V}(h:KAt K a xs):SqT K H a xs:=.inr h
theorem LAt.sq {xs:List V}(h:LAt K J H a xs):SqL K H a xs:=.inl (.inl h.1)
theorem SAt.sq {xs:List V}(h:SAt K J H a xs):SqL K H a xs:=by
 rcases h with h|h
 ·exact .inl h.1
 ·exact .inr h
theorem SAt.grow {xs:List V}(g:Grow J H J' H') (h:SAt K J H a xs):SAt K J' H' a xs:=by
 rcases h with h|h
 ·exact .inl (g.rd h.2 h.1)
 ·exact .inr h
theorem TAt.grow {xs:List V}(g:Grow J H J' H') (h:TAt K J H a xs):TAt K J' H' a xs:=⟨(g.keep _ _ h.2 h.1).tup,g.out h.2 h.1⟩
theorem LAt.grow {xs:List V}(g:Grow J H J' H') (h:LAt K J H a xs):LAt K J' H' a xs:=⟨(g.keep _ _ h.2 h.1).lst,g.out h.2 h.1⟩
theorem XFs.grow {dx:Option Addr}{xs:List (Str × V)}(g:Grow J H J' H') (h:XFs J H dx xs):XFs J' H' dx xs:=by
 rcases h with h|⟨d,e,n,h⟩
 ·exact .inl h
 ·exact .inr ⟨d,e,g.out n h,(g.keep _ _ n h).xd⟩
mutual
theorem Rep.grow (g:Grow J H J' H'):∀(d:D) (v:V),Rep K J H d v->Rep K J' H' d v
 | .non,_,h=>h
 | .bl _,_,h=>h
 | .int _,_,h=>h
 | .str _,_,h=>h
 | .ty _,_,h=>h
 | .tup ds,v,⟨a,xs,e,t,r⟩=>⟨a,xs,e,t.grow g,RepL.grow g ds xs r⟩
 | .lst ds,v,⟨a,xs,e,t,r⟩=>⟨a,xs,e,t.grow g,RepL.grow g ds xs r⟩
 | .ktup ds,v,⟨a,xs,e,t,r⟩=>⟨a,xs,e,t,RepL.grow g ds xs r⟩
 | .klst ds,v,⟨a,xs,e,t,r⟩=>⟨a,xs,e,t.grow g,RepL.grow g ds xs r⟩
 | .dct _ ks vs,v,⟨a,o,xs,e,n,h,t,r⟩=>⟨a,o,xs,e,(g.rd n h).2,(g.rd n h).1,t,RepL.grow g vs xs r⟩
 | .st l,v,⟨a,C,dx,fr,xs,e,n,h,f,r⟩=>⟨a,C,dx,fr,xs,e,g.out n h,(g.keep _ _ n h).ext,f.grow g,RepX.grow g C l xs r⟩
 | .ref n,v,⟨a,e,h⟩=>⟨a,g.pre n a e,h⟩
theorem RepX.grow (g:Grow J H J' H') (C:Addr):∀(l:List D) (xs:List (Str × V)),RepX K J H C l xs->RepX K J' H' C l xs
 | .int _::l,xs,h=>⟨h.1,RepF.grow g l xs h.2⟩
theorem RepF.grow (g:Grow J H J' H'):∀(l:List D) (xs:List (Str × V)),RepF K J H l xs->RepF K J' H' l xs
 | [],_,h=>h
 | .str _::d::l,xs,⟨x,r,e,h,t⟩=>⟨x,r,e,Rep.grow g d x h,RepF.grow g l r t⟩
theorem RepL.grow (g:Grow J H J' H'):∀(ds:List D) (xs:List V),RepL K J H ds xs->RepL K J' H' ds xs
 | [],_,h=>h
 | d::ds,xs,⟨x,r,e,h,t⟩=>⟨x,r,e,Rep.grow g d x h,RepL.grow g ds r t⟩
end
theorem RepE.grow (g:Grow J H J' H') (h:RepE K J H env σ):RepE K J' H' env σ:=⟨h.len,fun i d e=>by
 obtain⟨v,q,r⟩:=h.get i d e
 exact⟨v,q,Rep.grow g d v r⟩⟩
theorem RepL.length:∀{ds:List D}{xs:List V},RepL K J H ds xs->ds.length=xs.length
 | [],_,h=>by cases h;rfl
 | _::ds,_,⟨x,r,e,_,t⟩=>by subst e;simp[RepL.length t]
theorem RepL.get:∀{ds:List D}{xs:List V}{i:Nat}{d:D},RepL K J H ds xs->ds[i]?=some d->∃x,xs[i]?=some x/\Rep K J H d x
 | [],_,_,_,_,e=>by simp at e
 | d::ds,_,0,_,⟨x,r,e,h,t⟩,q=>by subst e;simp at q;subst q;exact⟨x,rfl,h⟩
 | _::ds,_,i+1,d,⟨x,r,e,_,t⟩,q=>by subst e;exact RepL.get (i:=i) t (by simpa using q)
theorem RepL.append:∀{ds es:List D}{xs ys:List V},RepL K J H ds xs->RepL K J H es ys->RepL K J H (ds++es) (xs++ys)
 | [],_,_,_,h,k=>by cases h;exact k
 | d::ds,_,_,_,⟨x,r,e,h,t⟩,k=>by subst e;exact⟨x,_,rfl,h,t.append k⟩
theorem RepL.snoc {ds:List D}{xs:List V}{x:V}(h:RepL K J H ds xs) (r:Rep K J H d x):RepL K J H (ds++[d]) (xs++[x]):=h.append ⟨x,[],rfl,r,rfl⟩
theorem RepL.take:∀{ds:List D}{xs:List V}(n:Nat),RepL K J H ds xs->RepL K J H (ds.take n) (xs.take n)
 | _,_,0,_=>rfl
 | [],_,_+1,h=>by cases h;rfl
 | d::ds,_,n+1,⟨x,r,e,h,t⟩=>by subst e;exact⟨x,_,rfl,h,t.take n⟩
theorem RepL.drop:∀{ds:List D}{xs:List V}(n:Nat),RepL K J H ds xs->RepL K J H (ds.drop n) (xs.drop n)
 | _,_,0,h=>h
 | [],_,_+1,h=>by cases h;rfl
 | d::ds,_,n+1,⟨x,r,e,h,t⟩=>by subst e;exact t.drop n
theorem RepL.reverse:∀{ds:List D}{xs:List V},RepL K J H ds xs->RepL K J H ds.reverse xs.reverse
 | [],_,h=>by cases h;rfl
 | d::ds,_,⟨x,r,e,h,t⟩=>by subst e;rw[List.reverse_cons,List.reverse_cons];exact t.reverse.snoc h
theorem RepL.dropLast {ds:List D}{xs:List V}(h:RepL K J H ds xs):RepL K J H ds.dropLast xs.dropLast:=by
 rw[List.dropLast_eq_take,List.dropLast_eq_take,h.length];exact h.take _
theorem RepL.ints:∀{ns:List Int},RepL K J H (ns.map D.int) (ns.map V.int)
 | []=>rfl
 | n::ns=>⟨_,_,rfl,rfl,RepL.ints⟩
theorem AbS.lt (h:AbS K J S H) {n:Nat}(e:J[n]?=some a):n<S.length:=by rw[<- h.len];exact(xu.mp e).1
theorem AbS.at (h:AbS K J S H) {n:Nat}(e:J[n]?=some a):∃d,S[n]?=some d/\RepO K J H d a:=
 ⟨S[n]'(h.lt e),xp (h.lt e),h.ob n a _ e (xp (h.lt e))⟩
theorem AbS.mem (h:AbS K J S H) (m:a∈J):∃o,H a=some o:=by
 obtain⟨i,e⟩:=List.mem_iff_getElem?.mp m
 obtain⟨d,_,o,r,_⟩:=h.at e
 exact⟨o,r⟩
theorem AbS.out (h:AbS K J S H) (n:H a=none):a ∉ J:=fun m=>by
 obtain⟨o,e⟩:=h.mem m
 rw[n]at e;cases e
theorem ObD.imp {o:HO}(rl:∀ds xs,RepL K J H ds xs->RepL K J' H' ds xs):∀{d:D},ObD K J H d o->ObD K J' H' d o
 | .lst ds,⟨xs,e,r⟩=>⟨xs,e,rl _ _ r⟩
 | .dct _ ks vs,⟨xs,e,r⟩=>⟨xs,e,rl _ _ r⟩
 | .non,h=>False.elim h
 | .bl _,h=>False.elim h
 | .int _,h=>False.elim h
 | .str _,h=>False.elim h
 | .ty _,h=>False.elim h
 | .tup _,h=>False.elim h
 | .ktup _,h=>False.elim h
 | .klst _,h=>False.elim h
 | .st _,h=>False.elim h
 | .ref _,h=>False.elim h
theorem ObD.grow {o:HO}(g:Grow J H J' H') (h:ObD K J H d o):ObD K J' H' d o:=h.imp (RepL.grow g)
theorem Grow.of (k:∀b o,H b=some o->H' b=some o):Grow J H J H':=⟨fun _ _ h=>h,fun _ h n=>absurd h n,fun b o _ h=>.inl (k b o h),fun b h=>by
 cases e:H b with
 | none=>rfl
 | some o=>rw[k b o e]at h;cases h⟩
theorem AbS.more (h:AbS K J S H) (k:∀b o,H b=some o->H' b=some o):AbS K J S H':=
 ⟨h.len,h.nd,fun i a d e q=>by
  obtain⟨o,eo,r⟩:=h.ob i a d e q
  exact⟨o,k _ _ eo,r.grow (.of k)⟩⟩
theorem zBz {p:Addr}{o:HO}(n:H p=none):∀b u,H b=some u->upd H p o b=some u:=fun b u e=>by rw[zA3 (zA2 e n)];exact e
theorem AbS.push {p:Addr}{o:HO}(h:AbS K J S H) (n:H p=none):AbS K J S (upd H p o):=h.more (zBz n)
theorem Grow.push {p:Addr}{o:HO}(n:H p=none):Grow J H J (upd H p o):=.of (zBz n)
theorem Grow.name {p:Addr}{o:HO}(n:H p=none):Grow J H (J++[p]) (upd H p o) where
 pre:=fun i a h=>by rw[xK (xu.mp h).1];exact h
 new:=fun a h z=>by
  rcases List.mem_append.mp h with h|h
  ·exact absurd h z
  ·rw[List.mem_singleton.mp h];exact n
 keep:=fun b u _ e=>.inl (zBz n b u e)
 dom:=(Grow.push (J:=J) n).dom
theorem AbS.name {p:Addr}{o:HO}(h:AbS K J S H) (n:H p=none) (r:ObD K J H d o):AbS K (J++[p]) (S++[d]) (upd H p o):=by
 have hp:=h.out n
 have g:Grow J H (J++[p]) (upd H p o):=.name n
 refine⟨by simp[h.len],?_,fun i a d' e q=>?_⟩
 ·refine List.nodup_append.mpr ⟨h.nd,(vq.mpr ⟨by simp,List.nodup_nil⟩),fun x hx y hy=>?_⟩
  rintro rfl
  exact hp (by rw[<- List.mem_singleton.mp hy];exact hx)
 ·by_cases hi:i<J.length
  ·rw[xK hi]at e
   rw[xK (by rw[<- h.len];exact hi)]at q
   obtain⟨o',eo,r'⟩:=h.ob i a d' e q
   exact⟨o',zBz n _ _ eo,r'.grow g⟩
  ·have hl:i=J.length:=by
    have:=(xu.mp e).1
    simp at this
    lia
   subst hl
   rw[xU (xh _)]at e
   rw[xU (by rw[h.len];exact xh _),h.len]at q
   simp at e q
   subst e q
   exact⟨o,zA5,r.grow g⟩
theorem Grow.write {n:Nat}{o:HO}(e:J[n]?=some a):Grow J H J (upd H a o) where
 pre:=fun _ _ h=>h
 new:=fun b h z=>absurd h z
 keep:=fun b u z h=>.inl (by rw[zA3 (fun q=>z (by rw[q];exact vO e))];exact h)
 dom:=fun b h=>by
  by_cases q:b=a
  ·subst q;rw[zA5]at h;cases h
  ·rw[zA3 q]at h;exact h
theorem AbS.write {n:Nat}{o:HO}(h:AbS K J S H) (e:J[n]?=some a) (r:ObD K J H d o):AbS K J (S.set n d) (upd H a o):=by
 have g:Grow J H J (upd H a o):=.write e
 refine⟨by simp[h.len],h.nd,fun i b d' ei q=>?_⟩
 by_cases hi:i=n
 ·subst hi
  rw[e]at ei;cases ei
  rw[xF (h.lt e)]at q
  cases q
  exact⟨o,zA5,r.grow g⟩
 ·rw[xr (xk hi)]at q
  obtain⟨o',eo,r'⟩:=h.ob i b d' ei q
  have hb:b≠a:=fun z=>by
   subst z
   exact hi ((List.getElem?_inj (xu.mp ei).1 h.nd).mp (ei.trans e.symm))
  exact⟨o',by rw[zA3 hb];exact eo,r'.grow g⟩
theorem lowL_iff {n:Nat}:∀{l:List D},DS.lowL n l=true <-> ∀d∈l,d.low n=true
 | []=>⟨(fun _ _ h=>nomatch h),fun _=>rfl⟩
 | d::r=>by
  show(d.low n && DS.lowL n r)=true <-> _
  rw[xg,lowL_iff (l:=r)]
  simp
theorem zFg (n:Nat) (k:Key):(keyD k).low n=true:=by cases k <;> rfl
theorem DOb.low {o:HO}{t:Bool}{ks:List D}{xs:List V}{n:Nat}(h:DOb o t ks xs):DS.lowL n ks=true:=by
 rcases h with⟨_,kvs,_,rfl,_⟩|⟨_,kvs,_,rfl,_⟩
 ·exact lowL_iff.mpr fun d hd=>by obtain⟨p,_,rfl⟩:=ve.mp hd;exact zFg n p.1
 ·exact lowL_iff.mpr fun d hd=>by
   obtain⟨p,_,rfl⟩:=ve.mp hd
   show DS.lowL n (p.1.map keyD)=true
   exact lowL_iff.mpr fun d hd=>by obtain⟨q,_,rfl⟩:=ve.mp hd;exact zFg n q
mutual
theorem Rep.low:∀(d:D) (v:V),Rep K J H d v->d.low J.length=true
 | .non,_,_=>rfl
 | .bl _,_,_=>rfl
 | .int _,_,_=>rfl
 | .str _,_,_=>rfl
 | .ty _,_,_=>rfl
 | .tup ds,v,⟨a,xs,e,t,r⟩=>RepL.low ds xs r
 | .lst ds,v,⟨a,xs,e,t,r⟩=>RepL.low ds xs r
 | .ktup ds,v,⟨a,xs,e,t,r⟩=>RepL.low ds xs r
 | .klst ds,v,⟨a,xs,e,t,r⟩=>RepL.low ds xs r
 | .dct _ ks vs,v,⟨a,o,xs,e,n,h,t,r⟩=>by
  show(DS.lowL J.length ks && DS.lowL J.length vs)=true
  rw[RepL.low vs xs r,Bool.and_true]
  exact DOb.low t
 | .st l,v,⟨a,C,dx,fr,xs,e,n,h,f,r⟩=>RepX.low C l xs r
 | .ref n,v,⟨a,e,h⟩=>xD (xu.mp e).1
theorem RepX.low (C:Addr):∀(l:List D) (xs:List (Str × V)),RepX K J H C l xs->DS.lowL J.length l=true
 | .int _::l,xs,h=>by
  show(true && DS.lowL J.length l)=true
  rw[RepF.low l xs h.2];rfl
theorem RepF.low:∀(l:List D) (xs:List (Str × V)),RepF K J H l xs->DS.lowL J.length l=true
 | [],_,h=>rfl
 | .str _::d::l,xs,⟨x,r,e,h,t⟩=>by
  show(true && (d.low J.length && DS.lowL J.length l))=true
  rw[Rep.low d x h,RepF.low l r t];rfl
theorem RepL.low:∀(ds:List D) (xs:List V),RepL K J H ds xs->DS.lowL J.length ds=true
 | [],_,_=>rfl
 | d::ds,xs,⟨x,r,e,h,t⟩=>by
  show(d.low J.length && DS.lowL J.length ds)=true
  rw[Rep.low d x h,RepL.low ds r t];rfl
end
theorem ObD.low {o:HO}:∀{d:D},ObD K J H d o->d.low J.length=true
 | .lst ds,⟨xs,_,r⟩=>RepL.low ds xs r
 | .dct _ ks vs,⟨xs,t,r⟩=>by
  show(DS.lowL J.length ks && DS.lowL J.length vs)=true
  rw[RepL.low vs xs r,Bool.and_true]
  exact DOb.low t
 | .non,h=>False.elim h
 | .bl _,h=>False.elim h
 | .int _,h=>False.elim h
 | .str _,h=>False.elim h
 | .ty _,h=>False.elim h
 | .tup _,h=>False.elim h
 | .ktup _,h=>False.elim h
 | .klst _,h=>False.elim h
 | .st _,h=>False.elim h
 | .ref _,h=>False.elim h
theorem zAj {n:Nat}(h:a ∉ J):a ∉ J.take n:=fun z=>h (List.mem_of_mem_take z)
mutual
theorem Rep.cut (n:Nat):∀(d:D) (v:V),d.low n=true->Rep K J H d v->Rep K (J.take n) H d v
 | .non,_,_,h=>h
 | .bl _,_,_,h=>h
 | .int _,_,_,h=>h
 | .str _,_,_,h=>h
 | .ty _,_,_,h=>h
 | .tup ds,v,l,⟨a,xs,e,t,r⟩=>⟨a,xs,e,⟨t.1,zAj t.2⟩,RepL.cut n ds xs l r⟩
 | .ktup ds,v,l,⟨a,xs,e,t,r⟩=>⟨a,xs,e,t,RepL.cut n ds xs l r⟩
 | .klst ds,v,l,⟨a,xs,e,t,r⟩=>⟨a,xs,e,by
   rcases t with t|t
   ·exact .inl ⟨t.1,zAj t.2⟩
   ·exact .inr t,RepL.cut n ds xs l r⟩
 | .lst ds,v,l,⟨a,xs,e,t,r⟩=>⟨a,xs,e,⟨t.1,zAj t.2⟩,RepL.cut n ds xs l r⟩
 | .dct _ ks vs,v,l,⟨a,o,xs,e,q,h,t,r⟩=>⟨a,o,xs,e,zAj q,h,t,RepL.cut n vs xs (by
   have l:(DS.lowL n ks && DS.lowL n vs)=true:=l
   rw[xg]at l
   exact l.2) r⟩
 | .st l,v,q,⟨a,C,dx,fr,xs,e,m,h,f,r⟩=>⟨a,C,dx,fr,xs,e,zAj m,h,by
   rcases f with f|⟨d,e,m,f⟩
   ·exact .inl f
   ·exact .inr ⟨d,e,zAj m,f⟩,RepX.cut n C l xs q r⟩
 | .ref m,v,l,⟨a,e,h⟩=>⟨a,by rw[vi (of_decide_eq_true l)];exact e,h⟩
theorem RepX.cut (n:Nat) (C:Addr):∀(l:List D) (xs:List (Str × V)),DS.lowL n l=true->RepX K J H C l xs->RepX K (J.take n) H C l xs
 | .int _::l,xs,q,h=>⟨h.1,RepF.cut n l xs (by
   have q:(true && DS.lowL n l)=true:=q
   exact q) h.2⟩
theorem RepF.cut (n:Nat):∀(l:List D) (xs:List (Str × V)),DS.lowL n l=true->RepF K J H l xs->RepF K (J.take n) H l xs
 | [],_,_,h=>h
 | .str _::d::l,xs,q,⟨x,r,e,h,t⟩=>by
  have q:(true && (d.low n && DS.lowL n l))=true:=q
  rw[Bool.true_and,xg]at q
  exact⟨x,r,e,Rep.cut n d x q.1 h,RepF.cut n l r q.2 t⟩
theorem RepL.cut (n:Nat):∀(ds:List D) (xs:List V),DS.lowL n ds=true->RepL K J H ds xs->RepL K (J.take n) H ds xs
 | [],_,_,h=>h
 | d::ds,xs,l,⟨x,r,e,h,t⟩=>by
  have l:(d.low n && DS.lowL n ds)=true:=l
  rw[xg]at l
  exact⟨x,r,e,Rep.cut n d x l.1 h,RepL.cut n ds r l.2 t⟩
end
theorem ObD.cut {n:Nat}{o:HO}:∀{d:D},d.low n=true->ObD K J H d o->ObD K (J.take n) H d o
 | .lst ds,l,⟨xs,e,r⟩=>⟨xs,e,RepL.cut n ds xs l r⟩
 | .dct _ ks vs,l,⟨xs,t,r⟩=>⟨xs,t,RepL.cut n vs xs (by
   have l:(DS.lowL n ks && DS.lowL n vs)=true:=l
   rw[xg]at l
   exact l.2) r⟩
 | .non,_,h=>False.elim h
 | .bl _,_,h=>False.elim h
 | .int _,_,h=>False.elim h
 | .str _,_,h=>False.elim h
 | .ty _,_,h=>False.elim h
 | .tup _,_,h=>False.elim h
 | .ktup _,_,h=>False.elim h
 | .klst _,_,h=>False.elim h
 | .st _,_,h=>False.elim h
 | .ref _,_,h=>False.elim h
theorem zCc {n:Nat}:∀{S S':Store},DS.keeps n S S'->∀i,i<S.length->∃b,S'[i]?=some b/\(S[i]?=some b\/b.low n=true)
 | [],_,_,i,hi=>by simp at hi
 | a::r,[],h,_,_=>False.elim h
 | a::r,b::t,h,0,_=>⟨b,rfl,by
   rcases h.1 with e|e
   ·subst e;exact .inl rfl
   ·exact .inr e⟩
 | a::r,b::t,h,i+1,hi=>by simpa using zCc h.2 i (by simpa using hi)
theorem Grow.take (h:AbS K J S H) (g:Grow J H J' H'):J'.take S.length=J:=by
 refine List.ext_getElem? fun i=>?_
 by_cases hi:i<S.length
 ·rw[vi hi]
  have hj:i<J.length:=by rw[h.len];exact hi
  rw[xp hj]
  exact g.pre i _ (xp hj)
 ·rw[x9 (by rw[x6];lia),x9 (by rw[h.len];lia)]
theorem Grow.cut (g:Grow J H J' H'):Grow J H J H':=⟨fun _ _ h=>h,fun _ h n=>absurd h n,g.keep,g.dom⟩
theorem AbS.cut (h:AbS K J S H) (g:Grow J H J' H') (h':AbS K J' S' H') (k:DS.keeps S.length S S'):AbS K J (S'.take S.length) H':=by
 have e:=g.take h
 refine⟨?_,h.nd,fun i a d ei q=>?_⟩
 ·have l:∀i,i<S.length->i<S'.length:=fun i hi=>by
   obtain⟨b,eb,_⟩:=zCc k i hi
   exact(xu.mp eb).1
  rw[h.len,x6]
  by_cases z:S.length=0
  ·lia
  ·have:=l (S.length-1) (by nofun)
   lia
 ·have hi:=h.lt ei
  rw[vi hi]at q
  obtain⟨b,eb,lo⟩:=zCc k i hi
  rw[q]at eb;cases eb
  obtain⟨o,eo,r⟩:=h'.ob i a d (g.pre i a ei) q
  have low:d.low S.length=true:=by
   rcases lo with lo|lo
   ·obtain⟨o',_,r'⟩:=h.ob i a d ei lo
    have:=r'.low
    rw[h.len]at this
    exact this
   ·exact lo
  have:=r.cut low
  rw[e]at this
  exact⟨o,eo,this⟩
theorem zQj {d2:D}{S2:Store}(h:AbS K J S H) (g:Grow J H J' H') (h':AbS K J' S' H') (r:Rep K J' H' d v) (e:DS.fin S d S'=.ok d2 S2):∃J2,AbS K J2 S2 H'/\Grow J H J2 H'/\Rep K J2 H' d2 v:=by
 have ek:=g.take h
 unfold DS.fin at e
 by_cases k:DS.keeps S.length S S'
 ·rw[xb k]at e
  by_cases l:d.low S.length=true
  ·rw[xb l]at e
   cases e
   refine⟨J,h.cut g h' k,g.cut,?_⟩
   have:=Rep.cut _ _ _ l r
   rw[ek]at this
   exact this
  ·rw[xc l]at e
   cases d with
   | ref n=>
    obtain⟨a,ea,rfl⟩:=r
    obtain⟨c,ec,o,eo,rc⟩:=h'.at ea
    simp only[ec]at e
    by_cases lc:c.low S.length=true
    ·rw[xb lc]at e
     cases e
     refine⟨J,h.cut g h' k,g.cut,?_⟩
     have ha:a ∉ J:=fun z=>by
      obtain⟨i,ei⟩:=List.mem_iff_getElem?.mp z
      have hi:=h.lt ei
      have e2:=g.pre i a ei
      have:=(List.getElem?_inj (xu.mp e2).1 h'.nd).mp (e2.trans ea.symm)
      subst this
      exact l (xD hi)
     have rc2:=rc.cut lc
     rw[ek]at rc2
     cases d2 with
     | lst ds=>obtain⟨xs,rfl,rl⟩:=rc2;exact⟨a,xs,rfl,⟨eo,ha⟩,rl⟩
     | dct _ ks vs=>obtain⟨xs,t,rl⟩:=rc2;exact⟨a,o,xs,rfl,ha,.inl eo,t,rl⟩
     | _=>exact False.elim rc2
    ·rw[xc lc]at e
     cases e
     exact⟨J',h',g,a,ea,rfl⟩
   | _=>cases e;exact⟨J',h',g,r⟩
 ·rw[xc k]at e
  cases e
  exact⟨J',h',g,r⟩
end
end L2
namespace L2
open PySem PySem.Spec PyProof.Rows
open DS (D Store Exn Rs SR)
noncomputable abbrev XE:=Exn->Store->Js->Hp->Prop
noncomputable def XE0:XE:=fun _ _ _ _=>False
noncomputable def Post {α:Type}(K:PySem.W.Frag) (E:XE) (J:Js) (H:Hp) (r:Rs α) (P:α->Store->Js->Hp->Prop):Prop:=match r with
 | .ok a S=>∀J' H',AbS K J' S H'->Grow J H J' H'->P a S J' H'
 | .ex x S=>∀J' H',AbS K J' S H'->Grow J H J' H'->E x S J' H'
 | .bad=>False
noncomputable def PostS (K:PySem.W.Frag) (E:XE) (J:Js) (H:Hp) (r:SR) (D:Ends):Prop:=match r with
 | .nx e S=>∀J' H' σ,AbS K J' S H'->Grow J H J' H'->RepE K J' H' e σ->D.nx σ H'
 | .rt d S=>∀J' H' v,AbS K J' S H'->Grow J H J' H'->Rep K J' H' d v->D.rt v H'
 | .bk e S=>∀J' H' σ,AbS K J' S H'->Grow J H J' H'->RepE K J' H' e σ->D.bk σ H'
 | .ct e S=>∀J' H' σ,AbS K J' S H'->Grow J H J' H'->RepE K J' H' e σ->D.ct σ H'
 | .ex x S=>∀J' H',AbS K J' S H'->Grow J H J' H'->E x S J' H'
 | .bad=>False
section
variable {α β:Type}{K:PySem.W.Frag}{E:XE}{J J1:Js}{H H1:Hp}{S:Store}
theorem Post.grow {r:Rs α}{P:α->Store->Js->Hp->Prop}(g:Grow J H J1 H1) (h:Post K E J H r P):Post K E J1 H1 r P:=by
 cases r with
 | ok a S=>exact fun J' H' h1 h2=>h J' H' h1 (g.trans h2)
 | ex x S=>exact fun J' H' h1 h2=>h J' H' h1 (g.trans h2)
 | bad=>exact h
theorem Post.bind {r:Rs α}{k:α->Store->Rs β}{P:β->Store->Js->Hp->Prop}(h:Post K E J H (r.bind k) P):Post K E J H r (fun a S J' H'=>Post K E J' H' (k a S) P):=by
 cases r with
 | ok a S=>exact fun J' H' _ g=>Post.grow g h
 | ex x S=>exact h
 | bad=>exact h
theorem Post.imp {r:Rs α}{P P':α->Store->Js->Hp->Prop}(h:Post K E J H r P) (k:∀a S J' H',r=.ok a S->AbS K J' S H'->Grow J H J' H'->P a S J' H'->P' a S J' H'):Post K E J H r P':=by
 cases r with
 | ok a S=>exact fun J' H' h1 h2=>k a S J' H' rfl h1 h2 (h J' H' h1 h2)
 | ex x S=>exact h
 | bad=>exact h
theorem Post.map {r:Rs α}{P P':α->Store->Js->Hp->Prop}(h:Post K E J H r P) (k:∀a S J' H',r=.ok a S->AbS K J' S H'->Grow J H J' H'->(∀J2 H2,AbS K J2 S H2->Grow J H J2 H2->P a S J2 H2)->P' a S J' H'):Post K E J H r P':=by
 cases r with
 | ok a S=>exact fun J' H' h1 h2=>k a S J' H' rfl h1 h2 h
 | ex x S=>exact h
 | bad=>exact h
theorem Post.lift {o:Option α}{P:α->Store->Js->Hp->Prop}(h:Post K E J H (DS.lift o S) P):∃a,o=some a/\∀J' H',AbS K J' S H'->Grow J H J' H'->P a S J' H':=by
 cases o with
 | some a=>exact⟨a,rfl,h⟩
 | none=>exact False.elim h
theorem PostS.grow {r:SR}{D:Ends}(g:Grow J H J1 H1) (h:PostS K E J H r D):PostS K E J1 H1 r D:=by
 cases r with
 | nx e S=>exact fun J' H' σ h1 h2=>h J' H' σ h1 (g.trans h2)
 | bk e S=>exact fun J' H' σ h1 h2=>h J' H' σ h1 (g.trans h2)
 | ct e S=>exact fun J' H' σ h1 h2=>h J' H' σ h1 (g.trans h2)
 | rt e S=>exact fun J' H' σ h1 h2=>h J' H' σ h1 (g.trans h2)
 | ex x S=>exact fun J' H' h1 h2=>h J' H' h1 (g.trans h2)
 | bad=>exact h
theorem PostS.then {r:Rs α}{k:α->Store->SR}{D:Ends}(h:PostS K E J H (r.then k) D):Post K E J H r (fun a S J' H'=>PostS K E J' H' (k a S) D):=by
 cases r with
 | ok a S=>exact fun J' H' _ g=>PostS.grow g h
 | ex x S=>exact h
 | bad=>exact h
end
section
variable (K:PySem.W.Frag) (E:XE)
noncomputable def tOf (m:DS.EM):TE:=fun σ H Q=>∃env S J,AbS K J S H/\RepE K J H env σ/\Post K E J H (m env S) (fun d _ J' H'=>∀v,Rep K J' H' d v->Q v H')
noncomputable def tOfF (m:DS.EM):TE:=fun σ H Q=>∃env S J,AbS K J S H/\RepE K J H env σ/\Post K E J H (m env S) (fun d _ J' H'=>∀p o,H' p=none->ObD K J' H' d o->Q (.ref p) (upd H' p o))
noncomputable def ttOf (m:DS.TM):TT:=fun σ H Q=>∃env S J,AbS K J S H/\RepE K J H env σ/\Post K E J H (m env S) (fun b _ _ H'=>Q b H')
noncomputable def aOf (m:DS.AM):TA:=fun σ H Q=>∃env S J,AbS K J S H/\RepE K J H env σ/\Post K E J H (m env S) (fun ds _ J' H'=>∀vs,RepL K J' H' ds vs->Q vs H')
noncomputable def tsOf (m:DS.SM):TS:=fun D σ H=>∃env S J,AbS K J S H/\RepE K J H env σ/\PostS K E J H (m env S) D
noncomputable def gOf (m:DS.GM):TG:=fun v σ H Q=>∃env S J d env',AbS K J S H/\RepE K J H env σ/\Rep K J H d v/\m S d env=some env'/\∀σ',RepE K J H env' σ'->Q σ' H
noncomputable def gsOf (m:Store->List D->DS.Env->Option DS.Env):TGs:=fun vs σ H Q=>∃env S J ds env',AbS K J S H/\RepE K J H env σ/\RepL K J H ds vs/\m S ds env=some env'/\∀σ',RepE K J H env' σ'->Q σ' H
structure ItOk (J0:Js) (H0:Hp) (w:DS.Walk) (I:It):Prop where
 go:∀(i:Nat) (H:Hp) (J:Js) (S:Store),AbS K J S H->Grow J0 H0 J H->DS.gOk S w.gd->i<w.its.length->I.go i H
 yld:∀(i:Nat) (H:Hp) (J:Js) (S:Store) (x:V) (H':Hp),AbS K J S H->Grow J0 H0 J H->DS.gOk S w.gd->I.yld i H x H'->∀d,w.its[i]?=some d->AbS K J S H'/\Grow J H J H'/\Rep K J H' d x
 stop:∀(i:Nat) (H:Hp) (J:Js) (S:Store),AbS K J S H->Grow J0 H0 J H->DS.gOk S w.gd->w.its.length<=i->I.stop i H
noncomputable def iOf (m:DS.IM):TI:=fun σ H R=>∃env S J,AbS K J S H/\RepE K J H env σ/\Post K E J H (m env S) (fun w _ J' H'=>∀I,ItOk K J' H' w I->R I H')
noncomputable def r2Of (g:Store->D->D->Option D):R2:=fun x y H Q=>∃J S d1 d2 d,AbS K J S H/\Rep K J H d1 x/\Rep K J H d2 y/\g S d1 d2=some d/\∀v H',AbS K J S H'->Grow J H J H'->Rep K J H' d v->Q v H'
noncomputable def cOf (g:Store->List D->Option D):List V->Hp->VK->Prop:=fun xs H Q=>∃J S ds d,AbS K J S H/\RepL K J H ds xs/\g S ds=some d/\∀v H',AbS K J S H'->Grow J H J H'->Rep K J H' d v->Q v H'
noncomputable def zMa (g:Store->D->D->Option D):R2:=fun x y H Q=>∃J S d1 d2 d,AbS K J S H/\Rep K J H d1 x/\Rep K J H d2 y/\g S d1 d2=some d/\∀p o H',AbS K J S H'->Grow J H J H'->H' p=none->ObD K J H' d o->Q (.ref p) (upd H' p o)
noncomputable def mOf (g:Store->D->List D->Option (D × Store)):V->List V->Hp->VK->Prop:=fun x xs H Q=>∃J S d1 ds d S',AbS K J S H/\Rep K J H d1 x/\RepL K J H ds xs/\g S d1 ds=some (d,S')/\∀v H',AbS K J S' H'->Grow J H J H'->Rep K J H' d v->Q v H'
noncomputable def spOf (F:DS.Fn):Sp:=fun vs H Q _=>∃J S ds,AbS K J S H/\RepL K J H ds vs/\Post K E J H (F ds S) (fun d _ J' H'=>∀v,Rep K J' H' d v->Q v H')
end
structure DE (X:Cx) (K:PySem.W.Frag) (E:XE) (e:Expr) (m:DS.EM):Prop where h:SE X e (tOf K E m)
structure DF (X:Cx) (K:PySem.W.Frag) (E:XE) (e:Expr) (m:DS.EM):Prop where h:SE X e (tOfF K E m)
structure DT (X:Cx) (K:PySem.W.Frag) (E:XE) (e:Expr) (m:DS.TM):Prop where h:ST X e (ttOf K E m)
structure DW (X:Cx) (K:PySem.W.Frag) (E:XE) (e:Expr) (m:DS.TM):Prop where h:SW X e (ttOf K E m)
structure DIf (X:Cx) (K:PySem.W.Frag) (E:XE) (es:List Expr) (m:DS.TM):Prop where h:SIfs X es (ttOf K E m)
structure DA (X:Cx) (K:PySem.W.Frag) (E:XE) (es:List Expr) (m:DS.AM):Prop where
 h:SA X es (aOf K E m)
 len:∀env S ds S',m env S=.ok ds S'->ds.length=es.length
structure DS1 (X:Cx) (K:PySem.W.Frag) (E:XE) (st:Stmt) (m:DS.SM):Prop where h:SS X st (tsOf K E m)
structure DSs (X:Cx) (K:PySem.W.Frag) (E:XE) (st:List Stmt) (m:DS.SM):Prop where h:SSs X st (tsOf K E m)
structure DG (X:Cx) (K:PySem.W.Frag) (e:Expr) (m:DS.GM):Prop where h:SG X e (gOf K m)
structure DGs (X:Cx) (K:PySem.W.Frag) (es:List Expr) (m:List DS.GM):Prop where h:SGs X es (gsOf K (DS.gAll m))
structure DI (X:Cx) (K:PySem.W.Frag) (E:XE) (tg e:Expr) (m:DS.IM):Prop where h:SI X tg e (iOf K E m)
section
variable {X:Cx}{K:PySem.W.Frag}{E:XE}{e a b c:Expr}{es:List Expr}{p pos:Pos}{m ma mb mc:DS.EM}{mt mu:DS.TM}
theorem SE.imp {t t':TE}(h:SE X e t) (k:∀σ H Q,t' σ H Q->t σ H Q):SE X e t':=⟨fun pins s σ H Q I q=>h.h pins s σ H Q I (k σ H Q q)⟩
theorem ST.imp {t t':TT}(h:ST X e t) (k:∀σ H Q,t' σ H Q->t σ H Q):ST X e t':=⟨fun pins s σ H Q I q=>h.h pins s σ H Q I (k σ H Q q)⟩
theorem SW.imp {t t':TT}(h:SW X e t) (k:∀σ H Q,t' σ H Q->t σ H Q):SW X e t':=⟨fun whole pins s σ H Q I q=>h.h whole pins s σ H Q I (k σ H Q q)⟩
theorem SIfs.imp {t t':TT}(h:SIfs X es t) (k:∀σ H Q,t' σ H Q->t σ H Q):SIfs X es t':=⟨fun pins s σ H Q I q=>h.h pins s σ H Q I (k σ H Q q)⟩
theorem SA.imp {t t':TA}(h:SA X es t) (k:∀σ H Q,t' σ H Q->t σ H Q):SA X es t':=⟨fun pos pins s σ H Q I q=>h.h pos pins s σ H Q I (k σ H Q q)⟩
theorem SS.imp {st:Stmt}{t t':TS}(h:SS X st t) (k:∀D σ H,t' D σ H->t D σ H):SS X st t':=⟨fun pins s σ H D I q=>h.h pins s σ H D I (k D σ H q)⟩
theorem SSs.imp {st:List Stmt}{t t':TS}(h:SSs X st t) (k:∀D σ H,t' D σ H->t D σ H):SSs X st t':=⟨fun pins s σ H D I q=>h.h pins s σ H D I (k D σ H q)⟩
theorem SG.imp {t t':TG}(h:SG X e t) (k:∀v σ H Q,t' v σ H Q->t v σ H Q):SG X e t':=⟨fun pins s σ H v u Q I r q=>h.h pins s σ H v u Q I r (k v σ H Q q)⟩
theorem SGs.imp {t t':TGs}(h:SGs X es t) (k:∀v σ H Q,t' v σ H Q->t v σ H Q):SGs X es t':=⟨fun pins s σ H v u Q I r q=>h.h pins s σ H v u Q I r (k v σ H Q q)⟩
theorem SI.imp {tg:Expr}{t t':TI}(h:SI X tg e t) (k:∀σ H R,t' σ H R->t σ H R):SI X tg e t':=⟨fun pins s σ H R I q=>h.h pins s σ H R I (k σ H R q)⟩
theorem ObD.rep {K:PySem.W.Frag}{J:Js}{S:Store}{H:Hp}{d:D}{o:HO}{p:Addr}(ha:AbS K J S H) (n:H p=none) (r:ObD K J H d o):Rep K J (upd H p o) d (.ref p):=by
 have r2:=r.grow (Grow.push (o:=o) n)
 have hp:=ha.out n
 cases d with
 | lst ds=>obtain⟨xs,rfl,rl⟩:=r2;exact⟨p,xs,rfl,⟨zA5,hp⟩,rl⟩
 | dct _ ks vs=>obtain⟨xs,t,rl⟩:=r2;exact⟨p,o,xs,rfl,hp,.inl zA5,t,rl⟩
 | _=>exact False.elim r2
theorem zSj (h:DF X K E e m):DE X K E e m:=⟨h.h.imp fun σ H Q ⟨env,S,J,ha,he,q⟩=>⟨env,S,J,ha,he,q.map fun d S' J' H' _ h1 g k p o n r=>
 k J' (upd H' p o) (h1.push n) (g.trans (.push n)) (.ref p) (r.rep h1 n)⟩⟩
theorem zR5 (h:DF X K E e m):DE X K E e (DS.eNew m):=⟨h.h.imp fun σ H Q ⟨env,S,J,ha,he,q⟩=>⟨env,S,J,ha,he,q.bind.map fun d S' J' H' _ h1 g k p o n r=>
 k J' H' h1 g (J'++[p]) (upd H' p o) (h1.name n r) (.name n) (.ref p) ⟨p,by rw[<- h1.len,xU (xh _)];simp,rfl⟩⟩⟩
theorem zR1 (i:Nat) {x:Str}(hN:X.N[i]?=some x:=by rfl) (hv:Vis X.env.scope x:=by first|exact Or.inl rfl|exact Or.inr (Or.inl rfl)|exact Or.inr (Or.inr rfl)) (hd:(x == ("__debug__":Str))=false:=by decide)
  (hcd:(x == ("__classdict__":Str))=false:=by decide):DE X K E (.Name x pos) (DS.eVar i):=⟨(pv' i hN hv hd hcd).imp fun σ H Q hq2=>by
 obtain⟨env,S,J,ha,he,q⟩:=hq2
 unfold DS.eVar at q
 cases e1:env[i]? with
 | none=>rw[e1]at q;exact False.elim q
 | some o=>
  cases o with
  | none=>rw[e1]at q;exact False.elim q
  | some d=>
   rw[e1]at q
   obtain⟨v,ev,r⟩:=he.get i d e1
   exact⟨v,ev,q J H ha .refl v r⟩⟩
theorem de_c {v:V}{d:D}(h:SE X e (tC v)) (r:∀J H,Rep K J H d v):DE X K E e (DS.eC d):=⟨h.imp fun σ H Q hz8=>by obtain⟨env,S,J,ha,he,q⟩:=hz8;exact q J H ha .refl v (r J H)⟩
theorem zR7 {i:Int}{j:_}:DE X K E (.Constant (.int i) j pos) (DS.eC (.int i)):=de_c zMu fun _ _=>rfl
theorem zSn {i:Bool}{j:_}:DE X K E (.Constant (.bool i) j pos) (DS.eC (.bl i)):=de_c zPw fun _ _=>rfl
theorem zR4 {j:_}:DE X K E (.Constant .none j pos) (DS.eC .non):=de_c zMs fun _ _=>rfl
theorem zR3 {i:Str}{j:_}:DE X K E (.Constant (.str i) j pos) (DS.eC (.str i)):=de_c zHf fun _ _=>rfl
theorem zF0 {r:R2}{g:Store->D->D->Option D}(hr:∀x y H Q,r2Of K g x y H Q->r x y H Q):∀σ H Q,tOf K E (DS.eOp g ma mb) σ H Q->tOp r (tOf K E ma) (tOf K E mb) σ H Q:=fun σ H Q ⟨env,S,J,ha,he,q⟩=>
 ⟨env,S,J,ha,he,q.bind.imp fun d1 S1 J1 H1 _ a1 g1 q1 x rx=>⟨env,S1,J1,a1,he.grow g1,q1.bind.imp fun d2 S2 J2 H2 _ a2 g2 q2 y ry=>by
  obtain⟨d,e,k⟩:=q2.lift
  exact hr _ _ _ _ ⟨J2,S2,d1,d2,d,a2,Rep.grow g2 _ _ rx,ry,e,fun v H' h1 h2 h3=>k J2 H' h1 h2 v h3⟩⟩⟩
theorem zLw {r:R2}{g:Store->D->D->Option D}(hr:∀x y H Q,zMa K g x y H Q->r x y H Q):∀σ H Q,tOfF K E (DS.eOp g ma mb) σ H Q->tOp r (tOf K E ma) (tOf K E mb) σ H Q:=fun σ H Q ⟨env,S,J,ha,he,q⟩=>
 ⟨env,S,J,ha,he,q.bind.imp fun d1 S1 J1 H1 _ a1 g1 q1 x rx=>⟨env,S1,J1,a1,he.grow g1,q1.bind.imp fun d2 S2 J2 H2 _ a2 g2 q2 y ry=>by
  obtain⟨d,e,k⟩:=q2.lift
  exact hr _ _ _ _ ⟨J2,S2,d1,d2,d,a2,Rep.grow g2 _ _ rx,ry,e,fun p o H' h1 h2 h3=>k J2 H' h1 h2 p o h3⟩⟩⟩
theorem zSi {op:Operator}{g:Store->D->D->Option D}(ho:OpR X (binaryOp op) (r2Of K g)) (ha:DE X K E a ma) (hb:DE X K E b mb):DE X K E (.BinOp a op b pos) (DS.eOp g ma mb):=⟨(zL5 ho ha.h hb.h).imp (zF0 fun _ _ _ _ h=>h)⟩
theorem zSg {op:Operator}{g:Store->D->D->Option D}(ho:OpR X (binaryOp op) (zMa K g)) (ha:DE X K E a ma) (hb:DE X K E b mb):DF X K E (.BinOp a op b pos) (DS.eOp g ma mb):=⟨(zL5 ho ha.h hb.h).imp (zLw fun _ _ _ _ h=>h)⟩
theorem zR9 {op:CmpOp}{g:Store->D->D->Option D}(ho:OpR X (compareOp op) (r2Of K g)) (ha:DE X K E a ma) (hb:DE X K E b mb) (hm:behindInMarks op b=false):DE X K E (.Compare a [op] [b] pos) (DS.eOp g ma mb):=⟨(zJz ho ha.h hb.h hm).imp (zF0 fun _ _ _ _ h=>h)⟩
theorem zSl {g:Store->D->D->Option D}(hr:IxR X (r2Of K g)) (ha:DE X K E a ma) (hb:DE X K E b mb) (h:nsl b=true:=by rfl):DE X K E (.Subscript a b pos) (DS.eOp g ma mb):=⟨(qix' hr ha.h hb.h h).imp (zF0 fun _ _ _ _ h=>h)⟩
theorem zRb:DA X K E [] DS.aNil:=⟨pa_nil'.imp fun σ H Q hz9=>by obtain⟨env,S,J,ha,he,q⟩:=hz9;exact q J H ha .refl [] rfl,fun _ _ _ _ e=>by cases e;rfl⟩
theorem zOp {am:DS.AM}(ha:DE X K E e m) (hr:DA X K E es am) (h:nst e=true:=by rfl):DA X K E (e::es) (DS.zA0 m am):=by
 refine⟨(qa' ha.h hr.h h).imp fun σ H Q ⟨env,S,J,h,he,q⟩=>⟨env,S,J,h,he,q.bind.imp fun d1 S1 J1 H1 _ a1 g1 q1 x rx=>⟨env,S1,J1,a1,he.grow g1,q1.bind.imp fun d2 S2 J2 H2 _ a2 g2 q2 ys ry=>
  q2 J2 H2 a2 .refl (x::ys) ⟨x,ys,rfl,Rep.grow g2 _ _ rx,ry⟩⟩⟩,fun env S ds S' e1=>?_⟩
 unfold DS.zA0 at e1
 cases e2:m env S with
 | ok d S1=>
  rw[e2,Rs.bind_ok]at e1
  cases e3:am env S1 with
  | ok dr S2=>rw[e3,Rs.bind_ok]at e1;cases e1;simp[hr.len _ _ _ _ e3]
  | _=>rw[e3]at e1;cases e1
 | _=>rw[e2]at e1;cases e1
theorem z1000 {n:Nat}(h:n<=1000):n<=sizeLine:=xq h (by decide)
theorem zR2 {am:DS.AM}{k:Nat}(h:DA X K E es am) (hz:es.length<=1000:=by decide):DE X K E (.Tuple es k pos) (DS.eTup am):=⟨(zMr h.h).imp fun σ H Q ⟨env,S,J,ha,he,q⟩=>
 ⟨env,S,J,ha,he,q.bind.imp fun ds S1 J1 H1 e1 a1 g1 q1 xs rx=>⟨by rw[<- rx.length,h.len _ _ _ _ e1];exact z1000 hz,fun p n=>
  q1 J1 (upd H1 p (.tup xs)) (a1.push n) (.push n) (.ref p) ⟨p,xs,rfl,⟨zA5,a1.out n⟩,RepL.grow (.push n) _ _ rx⟩⟩⟩⟩
theorem zR0 {am:DS.AM}(h:DA X K E es am) (hz:es.length<=1000:=by decide):DF X K E (.List es pos) (DS.eLst am):=⟨(zMt h.h).imp fun σ H Q ⟨env,S,J,ha,he,q⟩=>
 ⟨env,S,J,ha,he,q.bind.imp fun ds S1 J1 H1 e1 a1 g1 q1 xs rx=>⟨by rw[<- rx.length,h.len _ _ _ _ e1];exact z1000 hz,fun p n=>
  q1 J1 H1 a1 .refl p (.lst xs) n ⟨xs,rfl,rx⟩⟩⟩⟩
theorem zSp {r:List V->Hp->VK->Prop}{am:DS.AM}{g:Store->List D->Option D}(hr:∀xs H Q,cOf K g xs H Q->r xs H Q):∀σ H Q,tOf K E (DS.eCB g am) σ H Q->tCB r (aOf K E am) σ H Q:=fun σ H Q ⟨env,S,J,ha,he,q⟩=>
 ⟨env,S,J,ha,he,q.bind.imp fun ds S1 J1 H1 _ a1 g1 q1 xs rx=>by
  obtain⟨d,e,k⟩:=q1.lift
  exact hr _ _ _ ⟨J1,S1,ds,d,a1,rx,e,fun v H' h1 h2 h3=>k J1 H' h1 h2 v h3⟩⟩
theorem zSm {x:Str}{id:String}{am:DS.AM}{g:Store->List D->Option D}(hc:zBl X (.builtin id) (cOf K g)) (hg:Gl X x) (hm:X.mg x=none) (hv:bootBuiltins x=some (.builtin id)) (ha:DA X K E (e::es) am) (hn:x≠"__name__":=by decide) (hdb:(x == ("__debug__":Str))=false:=by decide)
  (h:(e::es).all nst=true:=by rfl):DE X K E (.Call (.Name x p) (e::es) [] pos) (DS.eCB g am):=⟨(zH7 hc hg hm hv ha.h hn hdb h).imp (zSp fun _ _ _ h=>h)⟩
theorem zOo {x:Str}{k:Nat}{ps:List Str}{F:DS.Fn}{am:DS.AM}(C:Cal X.prog X.w X.K X.mg X.base x k ps (spOf K E F)) (hr:Room k X.A) (hg:Gl X x) (ha:DA X K E (e::es) am) (hdb:(x == ("__debug__":Str))=false:=by decide)
  (h:(e::es).all nst=true:=by rfl):DE X K E (.Call (.Name x p) (e::es) [] pos) (DS.zA8 F am):=⟨(qcal' C hr hg ha.h hdb h).imp fun σ H Q ⟨env,S,J,h,he,q⟩=>
 ⟨env,S,J,h,he,q.bind.imp fun ds S1 J1 H1 _ a1 g1 q1 xs rx=>by
  show spOf K E F (xs++[]) H1 Q E0
  rw[vo]
  exact⟨J1,S1,ds,a1,rx,q1⟩⟩⟩
theorem zOy {J:Js}{S:Store}{H:Hp}{d:D}{v:V}{T:String}(ha:AbS K J S H) (r:Rep K J H d v) (hT:T="str"\/T="list"\/T="dict") (h:DS.tyD S d=some T):tyV K T v H:=by
 cases d with
 | str x=>obtain rfl:=r;cases h;exact rfl
 | lst ds=>obtain⟨a,xs,rfl,t,_⟩:=r;cases h;exact .inl ⟨rfl,xs,t.sq⟩
 | klst ds=>obtain⟨a,xs,rfl,t,_⟩:=r;cases h;exact .inl ⟨rfl,xs,t.sq⟩
 | dct _ ks vs=>
  obtain⟨a,o,xs,rfl,_,e,t,_⟩:=r;cases h
  refine .inr (.inr (.inl ⟨rfl,?_⟩))
  rcases t with⟨_,kvs,rfl,_⟩|⟨_,kvs,rfl,_⟩
  ·exact .inl ⟨kvs,e⟩
  ·exact .inr ⟨kvs,e⟩
 | ref n=>
  obtain⟨a,ea,rfl⟩:=r
  obtain⟨c,ec,o,eo,rc⟩:=ha.at ea
  have el:DS.look S (.ref n)=some c:=ec
  unfold DS.tyD at h
  rw[el]at h
  cases c with
  | lst ds=>cases h;obtain⟨xs,rfl,_⟩:=rc;exact .inl ⟨rfl,xs,.inl (.inl eo)⟩
  | dct _ ks vs=>
   cases h
   obtain⟨xs,t,_⟩:=rc
   refine .inr (.inr (.inl ⟨rfl,?_⟩))
   rcases t with⟨_,kvs,rfl,_⟩|⟨_,kvs,rfl,_⟩
   ·exact .inl ⟨kvs,.inl eo⟩
   ·exact .inr ⟨kvs,.inl eo⟩
  | _=>exact False.elim rc
 | _=>first|(cases h;rcases hT with z|z|z <;> exact absurd z (by decide))|cases h
theorem zQ6 {T:String}{r:V->List V->Hp->VK->Prop}{am:DS.AM}{g:Store->D->List D->Option (D × Store)}(hT:T="str"\/T="list"\/T="dict") (hr:∀x xs H Q,mOf K g x xs H Q->r x xs H Q):∀σ H Q,tOf K E (DS.eMt T g ma am) σ H Q->tBM K T r (tOf K E ma) (aOf K E am) σ H Q:=fun σ H Q ⟨env,S,J,ha,he,q⟩=>
 ⟨env,S,J,ha,he,q.bind.imp fun d1 S1 J1 H1 _ a1 g1 q1 x rx=>by
  by_cases hty:DS.tyD S1 d1=some T
  ·rw[xb hty]at q1
   refine⟨zOy a1 rx hT hty,env,S1,J1,a1,he.grow g1,q1.bind.imp fun ds S2 J2 H2 _ a2 g2 q2 xs rs=>?_⟩
   cases e:g S2 d1 ds with
   | none=>rw[e]at q2;exact False.elim q2
   | some w=>
    rw[e]at q2
    exact hr _ _ _ _ ⟨J2,S2,d1,ds,w.1,w.2,a2,Rep.grow g2 _ _ rx,rs,e,fun v H' h1 h2 h3=>q2 J2 H' h1 h2 v h3⟩
  ·rw[xc hty]at q1;exact False.elim q1⟩
theorem zSk {T name id:_}{o:Expr}{apos cpos:Pos}{g:Store->D->List D->Option (D × Store)}{mo:DS.EM}{am:DS.AM}(pa:PlainAttrs T) (slot:Slot T name id) (hty:typeOf (.builtin id)=pure (.type "method_descriptor")) (hm:MtR X id (mOf K g))
  (hT:T="str"\/T="list"\/T="dict") (ho:DE X K E o mo) (ha:DA X K E (e::es) am) (h:nba o=true:=by rfl) (hs:(e::es).all nst=true:=by rfl)
  (hlen:decide ((e::es).length+0+0<30)=true:=by rfl) (hline:(apos.endLine == cpos.line)=true:=by rfl) (hK:X.K=K:=by rfl):DE X K E (.Call (.Attribute o name apos) (e::es) [] cpos) (DS.eMt T g mo am):=by
 subst hK
 exact⟨(zPv pa slot hty hm ho.h ha.h h hs hlen hline).imp (zQ6 hT fun _ _ _ _ h=>h)⟩
theorem zR6 {T name id:_}{o:Expr}{apos cpos:Pos}{g:Store->D->List D->Option (D × Store)}{mo:DS.EM}(pa:PlainAttrs T) (slot:Slot T name id) (hty:typeOf (.builtin id)=pure (.type "method_descriptor")) (hm:MtR X id (mOf K g))
  (hT:T="str"\/T="list"\/T="dict") (ho:DE X K E o mo) (h:nba o=true:=by rfl) (hline:(apos.endLine == cpos.line)=true:=by rfl) (hK:X.K=K:=by rfl):DE X K E (.Call (.Attribute o name apos) [] [] cpos) (DS.eMt T g mo DS.aNil):=by
 subst hK
 refine⟨(qbm0' pa slot hty hm ho.h h hline).imp fun σ H Q h=>?_⟩
 obtain⟨env,S,J,ha,he,q⟩:=zQ6 hT (fun _ _ _ _ h=>h) σ H Q h
 refine⟨env,S,J,ha,he,q.imp fun d1 S1 J1 H1 _ a1 g1 q1 x rx=>?_⟩
 obtain⟨ht,env',S',J',ha',he',q'⟩:=q1 x rx
 exact⟨ht,q' J' H1 ha' .refl [] rfl⟩
noncomputable def poOf (K:PySem.W.Frag) (E:XE) (m:DS.Env->Store->Rs (Option Int)):TO:=fun σ H Q=>∃env S J,AbS K J S H/\RepE K J H env σ/\Post K E J H (m env S) (fun oi _ _ H'=>Q oi H')
structure DO (X:Cx) (K:PySem.W.Frag) (E:XE) (e:Option Expr) (m:DS.Env->Store->Rs (Option Int)):Prop where h:SO X e (poOf K E m)
theorem SO.imp {o:Option Expr}{t t':TO}(h:SO X o t) (k:∀σ H Q,t' σ H Q->t σ H Q):SO X o t':=⟨fun pins s σ H Q I q=>h.h pins s σ H Q I (k σ H Q q)⟩
theorem zSf:DO X K E none DS.pNo:=⟨po_none'.imp fun σ H Q hz0=>by obtain⟨env,S,J,ha,he,q⟩:=hz0;exact q J H ha .refl⟩
theorem zQw (h:DE X K E e m):DO X K E (some e) (DS.pYes m):=⟨(zJo h.h).imp fun σ H Q ⟨env,S,J,ha,he,q⟩=>⟨env,S,J,ha,he,q.bind.imp fun d S1 J1 H1 _ a1 g1 q1 x rx=>by
 obtain⟨oi,e,k⟩:=q1.lift
 cases d with
 | int i=>cases e;obtain rfl:=rx;exact⟨i,rfl,k J1 H1 a1 .refl⟩
 | _=>cases e⟩⟩
noncomputable def slOf (K:PySem.W.Frag) (g:Store->D->Option Int->Option Int->Option D):V->Option Int->Option Int->Hp->VK->Prop:=fun x lo hi H Q=>∃J S d1 d,AbS K J S H/\Rep K J H d1 x/\g S d1 lo hi=some d/\∀v H',AbS K J S H'->Grow J H J H'->Rep K J H' d v->Q v H'
theorem zSh {g:Store->D->Option Int->Option Int->Option D}{lo hi:Option Expr}{ml mh:DS.Env->Store->Rs (Option Int)}{p2:Pos}(hr:SlR X (slOf K g)) (he:DE X K E e m) (hl:DO X K E lo ml) (hu:DO X K E hi mh):DE X K E (.Subscript e (.Slice lo hi none p2) pos) (DS.eSl g m ml mh):=
 ⟨(zHg hr he.h hl.h hu.h).imp fun σ H Q ⟨env,S,J,ha,he,q⟩=>⟨env,S,J,ha,he,q.bind.imp fun d S1 J1 H1 _ a1 g1 q1 x rx=>⟨env,S1,J1,a1,he.grow g1,q1.bind.imp fun l S2 J2 H2 _ a2 g2 q2=>
  ⟨env,S2,J2,a2,he.grow (g1.trans g2),q2.bind.imp fun h S3 J3 H3 _ a3 g3 q3=>by
   obtain⟨r,er,k⟩:=q3.lift
   exact⟨J3,S3,d,r,a3,Rep.grow (g2.trans g3) _ _ rx,er,fun v H' h1 h2 h3=>k J3 H' h1 h2 v h3⟩⟩⟩⟩⟩
theorem zRi {J:Js}{H:Hp}{d:D}{x:V}{k:Bool}(e:DS.asB d=some k) (r:Rep K J H d x):x=.bl k:=by
 cases d with
 | bl i=>cases e;exact r
 | _=>cases e
theorem zRl:∀σ H Q,ttOf K E (DS.tB m) σ H Q->tOf K E m σ H (fun x H'=>∃k,x=.bl k/\Q k H'):=fun σ H Q ⟨env,S,J,ha,he,q⟩=>⟨env,S,J,ha,he,q.bind.imp fun d S1 J1 H1 _ a1 g1 q1 x rx=>by
 obtain⟨k,e,z⟩:=q1.lift
 exact⟨k,zRi e rx,z J1 H1 a1 .refl⟩⟩
theorem zQv {op:CmpOp}{g:Store->D->D->Option D}(ho:OpR X (compareOp op) (r2Of K g)) (ha:DE X K E a ma) (hb:DE X K E b mb) (hm:behindInMarks op b=false):DT X K E (.Compare a [op] [b] pos) (DS.tB (DS.eOp g ma mb)):=
 ⟨(zJj ho ha.h hb.h hm).imp fun σ H Q h=>zF0 (fun _ _ _ _ h=>h) σ H _ (zRl σ H Q h)⟩
theorem zO2 (ha:DT X K E a mt):DW X K E (.BoolOp .And [a] pos) mt:=⟨zJh ha.h⟩
theorem zQm (ha:DT X K E a mt):DW X K E (.BoolOp .Or [a] pos) mt:=⟨zMb ha.h⟩
theorem zQn (ha:DT X K E a mt) (hb:DW X K E (.BoolOp .And (b::es) pos) mu):DW X K E (.BoolOp .And (a::b::es) pos) (DS.tAnd mt mu):=⟨(zMd ha.h hb.h).imp fun σ H Q ⟨env,S,J,ha,he,q⟩=>⟨env,S,J,ha,he,q.bind.imp fun k S1 J1 H1 _ a1 g1 q1=>by
 cases k with
 | true=>exact⟨env,S1,J1,a1,he.grow g1,q1⟩
 | false=>exact q1 J1 H1 a1 .refl⟩⟩
theorem zSc (ha:DT X K E a mt) (hb:DW X K E (.BoolOp .Or (b::es) pos) mu):DW X K E (.BoolOp .Or (a::b::es) pos) (DS.tOr mt mu):=⟨(zPb ha.h hb.h).imp fun σ H Q ⟨env,S,J,ha,he,q⟩=>⟨env,S,J,ha,he,q.bind.imp fun k S1 J1 H1 _ a1 g1 q1=>by
 cases k with
 | true=>exact q1 J1 H1 a1 .refl
 | false=>exact⟨env,S1,J1,a1,he.grow g1,q1⟩⟩⟩
theorem dt_w (h:DW X K E e mt):DT X K E e mt:=⟨zP9 h.h⟩
theorem zOg:DIf X K E [] DS.tYes:=⟨pifs_nil'.imp fun σ H Q hz1=>by obtain⟨env,S,J,ha,he,q⟩:=hz1;exact q J H ha .refl⟩
theorem zOf (h:DT X K E c mt):DIf X K E [c] mt:=⟨zHd h.h⟩
theorem RepE.set {J:Js}{H:Hp}{env:DS.Env}{σ:St}{d:D}{v:V}{i:Nat}(h:RepE K J H env σ) (r:Rep K J H d v):RepE K J H (env.set i (some d)) (σ.set i (some v)):=by
 refine⟨by simp[h.len],fun j d' e=>?_⟩
 by_cases hj:i=j
 ·subst hj
  have hi:i<env.length:=by
   have:=(xu.mp e).1
   simpa using this
  rw[xF hi]at e
  cases e
  exact⟨v,xF (by rw[<- h.len];exact hi),r⟩
 ·rw[xr hj]at e
  rw[xr hj]
  exact h.get j d' e
theorem zOk {j:Nat}{x:Str}(hN:X.N.Nodup) (hi:X.N[j]?=some x) (hx:Loc X.env.scope x) (hf:X.fn x=true\/X.env.scope.names.lookup x=some .local:=by first|exact .inl rfl|exact .inr rfl|assumption):DG X K (.Name x pos) (DS.gName j):=
 ⟨(zJu hN hi hx hf).imp fun v σ H Q hq3=>by
  obtain⟨env,S,J,d,env',ha,he,r,e,k⟩:=hq3
  cases e
  exact k _ (he.set r)⟩
theorem zOh:DGs X K [] []:=⟨pgs_nil'.imp fun v σ H Q hq4=>by
 obtain⟨env,S,J,ds,env',ha,he,r,e,k⟩:=hq4
 cases ds with
 | nil=>cases e;cases r;exact⟨rfl,k _ he⟩
 | cons d ds=>cases e⟩
theorem zKv {tg:Expr}{ts:List Expr}{g:DS.GM}{gs:List DS.GM}(h1:DG X K tg g) (h2:DGs X K ts gs) (h:nst tg=true:=by rfl):DGs X K (tg::ts) (g::gs):=⟨(qgs' h1.h h2.h h).imp fun v σ H Q hq5=>by
 obtain⟨env,S,J,ds,env',ha,he,r,e,k⟩:=hq5
 cases ds with
 | nil=>cases e
 | cons d ds=>
  obtain⟨x,xs,rfl,rx,rl⟩:=r
  unfold DS.gAll at e
  cases e1:g S d env with
  | none=>rw[e1]at e;cases e
  | some env1=>
   rw[e1]at e
   exact⟨x,xs,rfl,env,S,J,d,env1,ha,he,rx,e1,fun σ' he'=>⟨env1,S,J,ds,env',ha,he',rl,e,k⟩⟩⟩
theorem zB9:∀{gs:List DS.GM}{S:Store}{ds:List D}{env env':DS.Env},DS.gAll gs S ds env=some env'->ds.length=gs.length
 | [],_,[],_,_,_=>rfl
 | [],_,_::_,_,_,e=>by cases e
 | _::_,_,[],_,_,e=>by cases e
 | g::gs,S,d::ds,env,env',e=>by
  unfold DS.gAll at e
  cases e1:g S d env with
  | none=>rw[e1]at e;cases e
  | some env1=>rw[e1]at e;simp[zB9 e]
theorem SG.or {t u:TG}(h:SG X e t) (h':SG X e u):SG X e (fun v σ H Q=>t v σ H Q\/u v σ H Q):=⟨fun pins s σ H v w Q I r q=>by
 rcases q with q|q
 ·exact h.h pins s σ H v w Q I r q
 ·exact h'.h pins s σ H v w Q I r q⟩
theorem zQz {ts:List Expr}{k:Nat}{gs:List DS.GM}(hc:X.calm=true) (h:DGs X K ts gs) (hn:ts.length=gs.length:=by rfl) (h1:ts.all nst=true:=by rfl) (hK:X.K=K:=by rfl):DG X K (.Tuple ts k pos) (DS.gTup gs):=by
 subst hK
 refine⟨((qtup' hc h.h hn h1).or (qunl' hc h.h hn h1)).imp fun v σ H Q hq1=>?_⟩
 obtain⟨env,S,J,d,env',ha,he,r,e,k⟩:=hq1
 unfold DS.gTup DS.items DS.look at e
 cases d with
 | tup ds=>obtain⟨a,xs,rfl,t,rl⟩:=r;exact .inl ⟨a,xs,rfl,t.sq,by rw[<- rl.length];exact zB9 e,env,S,J,ds,env',ha,he,rl,e,k⟩
 | klst ds=>obtain⟨a,xs,rfl,t,rl⟩:=r;exact .inr ⟨a,xs,rfl,t.sq,by rw[<- rl.length];exact zB9 e,env,S,J,ds,env',ha,he,rl,e,k⟩
 | ktup ds=>obtain⟨a,xs,rfl,t,rl⟩:=r;exact .inl ⟨a,xs,rfl,t.sq,by rw[<- rl.length];exact zB9 e,env,S,J,ds,env',ha,he,rl,e,k⟩
 | lst ds=>obtain⟨a,xs,rfl,t,rl⟩:=r;exact .inr ⟨a,xs,rfl,t.sq,by rw[<- rl.length];exact zB9 e,env,S,J,ds,env',ha,he,rl,e,k⟩
 | ref n=>
  obtain⟨a,ea,rfl⟩:=r
  obtain⟨c,ec,o,eo,rc⟩:=ha.at ea
  simp only[ec]at e
  cases c with
  | lst ds=>obtain⟨xs,rfl,rl⟩:=rc;exact .inr ⟨a,xs,rfl,.inl (.inl eo),by rw[<- rl.length];exact zB9 e,env,S,J,ds,env',ha,he,rl,e,k⟩
  | dct _ ks vs=>cases e
  | _=>exact False.elim rc
 | _=>cases e
variable {st:Stmt}{sts:List Stmt}{ms mu' mv:DS.SM}
theorem zOd:DSs X K E [] DS.zDp:=⟨pss_nil'.imp fun D σ H hz2=>by obtain⟨env,S,J,ha,he,q⟩:=hz2;exact q J H σ ha .refl he⟩
theorem zDg (h:DS1 X K E st ms):DSs X K E [st] ms:=⟨zF8 h.h⟩
theorem zFl (h:DS1 X K E st ms) (k:DSs X K E sts mv):DSs X K E (st::sts) (DS.sSeq ms mv):=⟨(zH9 h.h k.h).imp fun D σ H ⟨env,S,J,ha,he,q⟩=>⟨env,S,J,ha,he,by
 unfold DS.sSeq at q
 cases e:ms env S with
 | nx e1 S1=>rw[e]at q;exact fun J' H' σ' h1 g1 h2=>⟨e1,S1,J',h1,h2,PostS.grow g1 q⟩
 | _=>rw[e]at q;exact q⟩⟩
theorem zOa {j:Nat}{x:Str}{pos':Pos}(hN:X.N.Nodup) (hi:X.N[j]?=some x) (hx:Loc X.env.scope x) (he:DE X K E e m) (hf:X.fn x=true\/X.env.scope.names.lookup x=some .local:=by first|exact .inl rfl|exact .inr rfl|assumption) (h:nco e=true:=by rfl):
  DS1 X K E (.Assign [.Name x pos'] e pos) (DS.sSet j m):=⟨(qset' hN hi hx he.h hf h).imp fun D σ H hz3=>by obtain⟨env,S,J,ha,he,q⟩:=hz3;exact ⟨env,S,J,ha,he,q.then.imp fun d S1 J1 H1 _ a1 g1 q1 v rv=>q1 J1 H1 _ a1 .refl ((he.grow g1).set rv)⟩⟩
theorem zKr (he:DE X K E e m) (h:nco e=true:=by rfl):DS1 X K E (.Expr e pos) (DS.zC8 m):=⟨(qexpr' he.h h).imp fun D σ H hz4=>by obtain⟨env,S,J,ha,he,q⟩:=hz4;exact ⟨env,S,J,ha,he,q.then.imp fun d S1 J1 H1 _ a1 g1 q1 v rv=>q1 J1 H1 σ a1 .refl (he.grow g1)⟩⟩
theorem zIc (he:DE X K E e m):DS1 X K E (.Return (some e) pos) (DS.sRet m):=⟨(zMj he.h).imp fun D σ H hz5=>by obtain⟨env,S,J,ha,he,q⟩:=hz5;exact ⟨env,S,J,ha,he,q.then.imp fun d S1 J1 H1 _ a1 g1 q1 v rv=>q1 J1 H1 v a1 .refl rv⟩⟩
theorem zLk {ba bb:List Stmt}(hc:DT X K E c mt) (ha:DSs X K E ba ms) (hb:DSs X K E bb mv):DS1 X K E (.If c ba bb pos) (DS.sIf mt ms mv):=⟨(zPh hc.h ha.h hb.h).imp fun D σ H ⟨env,S,J,ha,he,q⟩=>⟨env,S,J,ha,he,q.then.imp fun k S1 J1 H1 _ a1 g1 q1=>by
 cases k with
 | true=>exact⟨env,S1,J1,a1,he.grow g1,q1⟩
 | false=>exact⟨env,S1,J1,a1,he.grow g1,q1⟩⟩⟩
theorem zKq {x y:Str}{px py pt pt2:Pos}{kt k2 i j:Nat}{am:DS.AM}(hc:X.calm=true) (hN:X.N.Nodup) (hi:X.N[i]?=some x) (hj:X.N[j]?=some y) (hij:i≠j)
  (hx:X.env.scope.names.lookup x=some .local) (hy:X.env.scope.names.lookup y=some .local) (ha:DA X K E [a,b] am)
  (hw:swappedStores [.Tuple [.Name x px,.Name y py] kt pt] (.Tuple [a,b] k2 pt2) X.env=pure (some [x,y])):
  DS1 X K E (.Assign [.Tuple [.Name x px,.Name y py] kt pt] (.Tuple [a,b] k2 pt2) pos) (DS.sPar [i,j] am):=⟨(qpar' hc hN hi hj hij hx hy ha.h hw).imp fun D σ H ⟨env,S,J,h,he,q⟩=>⟨env,S,J,h,he,q.then.imp fun ds S1 J1 H1 e1 a1 g1 q1 vs rv=>by
 have hl:=ha.len _ _ _ _ e1
 match ds,hl with
 | [d1,d2],_=>
  obtain⟨v1,r1,rfl,rv1,v2,r2,rfl,rv2,rfl⟩:=rv
  exact⟨v1,v2,rfl,q1 J1 H1 _ a1 .refl (((he.grow g1).set rv1).set rv2)⟩⟩⟩
theorem zIb {body:List Stmt}(hp:PassesOwn (model X.prog X.w) X.A X.env X.xe) (hc:DT X K E c mt) (hb:DSs X K E body ms):DS1 X K E (.While c body [] pos) (DS.zC7 mt ms):=⟨(zHa hp hc.h hb.h).imp fun D σ H hq6=>by
 obtain⟨env,S,J,ha,he,q⟩:=hq6
 unfold DS.zC7 at q
 by_cases hx:∃n,DS.zAf mt ms n env S≠.bad
 ·rw[dif_pos hx]at q
  generalize Classical.choose hx=n at q
  refine⟨fun n σ H=>∃env S J,AbS K J S H/\RepE K J H env σ/\PostS K E J H (DS.zAf mt ms n env S) D,⟨n,env,S,J,ha,he,q⟩,?_⟩
  rintro m σ H ⟨env,S,J,ha,he,q⟩
  cases m with
  | zero=>exact False.elim q
  | succ m=>
   refine⟨env,S,J,ha,he,(PostS.then (by unfold DS.zAf at q;exact q)).imp fun k S1 J1 H1 _ a1 g1 q1=>?_⟩
   cases k with
   | false=>exact q1 J1 H1 σ a1 .refl (he.grow g1)
   | true=>
    rw[xb rfl]at q1 ⊢
    refine⟨fun σ H=>∃env S J,AbS K J S H/\RepE K J H env σ/\PostS K E J H (DS.zAf mt ms m env S) D,fun σ' H' w=>⟨m,Nat.lt_succ_self m,w⟩,env,S1,J1,a1,he.grow g1,?_⟩
    cases e:ms env S1 with
    | nx e1 S2=>rw[e]at q1;exact fun J' H' σ' h1 g2 h2=>⟨e1,S2,J',h1,h2,PostS.grow g2 q1⟩
    | ct e1 S2=>rw[e]at q1;exact fun J' H' σ' h1 g2 h2=>⟨e1,S2,J',h1,h2,PostS.grow g2 q1⟩
    | _=>rw[e]at q1;exact q1
 ·rw[dif_neg hx]at q;exact False.elim q⟩
theorem zFm {α:Type}{l:List α}{i:Nat}(h:i<l.length):l.drop i=l[i]::l.drop (i+1):=List.drop_eq_getElem_cons h
theorem zOc {tg iter:Expr}{body:List Stmt}{im:DS.IM}{g:DS.GM}(hp:PassesOwn (model X.prog X.w) X.A X.env X.xe) (hc:X.calm=true) (hi:DI X K E tg iter im) (hg:DG X K tg g) (hb:DSs X K E body ms) (h:nse iter=true:=by rfl):
  DS1 X K E (.For tg iter body [] pos) (DS.sFor im g ms):=⟨(qfor' hp hc hi.h hg.h hb.h h).imp fun D σ H ⟨env,S,J,ha,he,q⟩=>⟨env,S,J,ha,he,q.then.imp fun w S1 J1 H1 _ a1 g1 q1 I ok=>by
 refine⟨fun i m σ H=>m+i=w.its.length/\∃env S J,AbS K J S H/\Grow J1 H1 J H/\RepE K J H env σ/\PostS K E J H (DS.forL w.gd g ms (w.its.drop i) env S) D,⟨w.its.length,rfl,env,S1,J1,a1,.refl,he.grow g1,q1⟩,?_⟩
 rintro i m σ H ⟨hm,env,S,J,ha,gr,he,q⟩
 by_cases hi:i<w.its.length
 ·rw[zFm hi]at q
  unfold DS.forL at q
  by_cases gd:DS.gOk S w.gd
  ·rw[xb gd]at q
   refine .inr ⟨ok.go i H J S ha gr gd hi,fun σ H=>(m-1)+(i+1)=w.its.length/\∃env S J,AbS K J S H/\Grow J1 H1 J H/\RepE K J H env σ/\PostS K E J H (DS.forL w.gd g ms (w.its.drop (i+1)) env S) D,fun σ' H' wq=>⟨m-1,by nofun,wq⟩,fun x H' y=>?_⟩
   obtain⟨a2,g2,rx⟩:=ok.yld i H J S x H' ha gr gd y _ (xp hi)
   cases eg:g S w.its[i] env with
   | none=>rw[eg]at q;exact False.elim q
   | some env'=>
    rw[eg]at q
    refine⟨env,S,J,w.its[i],env',a2,he.grow g2,rx,eg,fun σ2 he2=>⟨env',S,J,a2,he2,?_⟩⟩
    simp only at q
    cases e:ms env' S with
    | nx e1 S2=>rw[e]at q;exact fun J' H' σ' h1 g3 h2=>⟨by nofun,e1,S2,J',h1,gr.trans (g2.trans g3),h2,PostS.grow (g2.trans g3) q⟩
    | ct e1 S2=>rw[e]at q;exact fun J' H' σ' h1 g3 h2=>⟨by nofun,e1,S2,J',h1,gr.trans (g2.trans g3),h2,PostS.grow (g2.trans g3) q⟩
    | bk e1 S2=>rw[e]at q;exact fun J' H' σ' h1 g3 h2=>q J' H' σ' h1 (g2.trans g3) h2
    | rt e1 S2=>rw[e]at q;exact fun J' H' σ' h1 g3 h2=>q J' H' σ' h1 (g2.trans g3) h2
    | ex e1 S2=>rw[e]at q;exact fun J' H' h1 g3=>q J' H' h1 (g2.trans g3)
    | bad=>rw[e]at q;exact q
  ·rw[xc gd]at q;exact False.elim q
 ·have e0:w.its.drop i=[]:=List.drop_eq_nil_of_le (by nofun)
  rw[e0]at q
  unfold DS.forL at q
  by_cases gd:DS.gOk S w.gd
  ·rw[xb gd]at q
   exact .inl ⟨ok.stop i H J S ha gr gd (by nofun),q J H σ ha .refl he⟩
  ·rw[xc gd]at q;exact False.elim q⟩⟩
theorem zGe {J:Js}{H:Hp}{env:DS.Env}{σ:St}{own:List Str}{ix:List Nat}(he:RepE K J H env σ):RepE K J H (DS.compEnv own.length ix env) (zBc own ix σ):=by
 refine⟨by simp[DS.compEnv,zBc],fun i d e=>?_⟩
 unfold DS.compEnv at e
 unfold zBc
 by_cases hi:i<own.length
 ·rw[xK (by simpa using hi),List.getElem?_replicate,xb hi]at e
  cases e
 ·rw[xU (by simpa using hi),xV]at e
  rw[xU (by simpa using hi),xV]
  simp only[List.length_replicate,xE]at e ⊢
  cases ej:ix[i-own.length]? with
  | none=>rw[ej]at e;cases e
  | some j=>
   rw[ej]at e
   simp only[vK,Option.some.injEq]at e ⊢
   cases en:env[j]? with
   | none=>rw[en]at e;cases e
   | some o=>
    rw[en]at e
    obtain⟨v,ev,r⟩:=he.get j d (by rw[en];exact congrArg some e)
    exact⟨v,by rw[ev];rfl,r⟩
theorem zFo {own:List Str}{ix:List Nat}{im:DS.IM}{g:DS.GM}:∀σ H Q,tOfF K E (DS.zAn own.length ix im g mt m) σ H Q->zEg own ix (iOf K E im) (gOf K g) (ttOf K E mt) (tOf K E m) σ H Q:=by
 refine fun σ H Q ⟨env,St,J,ha,hE,q⟩=>⟨env,St,J,ha,hE,q.bind.imp fun w S1 J1 H1 _ a1 g1 q1 I ok=>?_⟩
 refine⟨fun i k ys σ H=>k+i=w.its.length/\∃env S J ds,AbS K J S H/\Grow J1 H1 J H/\RepE K J H env σ/\RepL K J H ds ys/\Post K E J H (DS.zAz w.gd g mt m ys.length (w.its.drop i) env S) (fun vs S2 J2 H2=>∀p o,H2 p=none->ObD K J2 H2 (.lst (ds++vs)) o->Q (.ref p) (upd H2 p o)),
  ⟨w.its.length,rfl,_,S1,J1,[],a1,.refl,zGe (hE.grow g1),rfl,q1.bind.imp fun vs S2 J2 H2 _ a2 g2 q2=>q2 J2 H2 a2 .refl⟩,?_⟩
 rintro i k ys σ H ⟨hk,env,S,J,ds,ha,gr,hE,rl,q⟩
 by_cases hi:i<w.its.length
 ·rw[zFm hi]at q
  unfold DS.zAz at q
  by_cases gd:DS.gOk S w.gd/\ys.length<DS.most
  ·rw[xb gd]at q
   refine .inr ⟨ok.go i H J S ha gr gd.1 hi,gd.2,fun ys σ H=>(k-1)+(i+1)=w.its.length/\∃env S J ds,AbS K J S H/\Grow J1 H1 J H/\RepE K J H env σ/\RepL K J H ds ys/\Post K E J H (DS.zAz w.gd g mt m ys.length (w.its.drop (i+1)) env S) (fun vs S2 J2 H2=>∀p o,H2 p=none->ObD K J2 H2 (.lst (ds++vs)) o->Q (.ref p) (upd H2 p o)),
    fun zs σ' H' wq=>⟨k-1,by nofun,wq⟩,fun x H' y=>?_⟩
   obtain⟨a2,g2,rx⟩:=ok.yld i H J S x H' ha gr gd.1 y _ (xp hi)
   cases eg:g S w.its[i] env with
   | none=>rw[eg]at q;exact False.elim q
   | some env'=>
    rw[eg]at q
    refine⟨env,S,J,w.its[i],env',a2,hE.grow g2,rx,eg,fun σ2 he2=>⟨env',S,J,a2,he2,(Post.grow g2 q).bind.imp fun b S3 J3 H3 _ a3 g3 q3=>?_⟩⟩
    cases b with
    | false=>exact⟨by nofun,env',S3,J3,ds,a3,gr.trans (g2.trans g3),he2.grow g3,RepL.grow (g2.trans g3) _ _ rl,q3⟩
    | true=>
     rw[xb rfl]at q3 ⊢
     refine⟨env',S3,J3,a3,he2.grow g3,q3.bind.imp fun d4 S4 J4 H4 _ a4 g4 q4 v rv=>?_⟩
     have g24:=g2.trans (g3.trans g4)
     refine⟨by nofun,env',S4,J4,ds++[d4],a4,gr.trans g24,he2.grow (g3.trans g4),(RepL.grow g24 _ _ rl).snoc rv,?_⟩
     rw[show(ys++[v]).length=ys.length+1 by simp]
     refine q4.bind.imp fun vs S5 J5 H5 _ a5 g5 q5=>?_
     have:=q5 J5 H5 a5 .refl
     rw[List.append_assoc]
     exact this
  ·rw[xc gd]at q;exact False.elim q
 ·have e0:w.its.drop i=[]:=List.drop_eq_nil_of_le (by nofun)
  rw[e0]at q
  unfold DS.zAz at q
  by_cases gd:DS.gOk S w.gd
  ·rw[xb gd]at q
   have q2:∀(p:Addr) (o:HO),H p=none->ObD K J H (.lst (ds++[])) o->Q (.ref p) (upd H p o):=q J H ha .refl
   rw[vo]at q2
   exact .inl ⟨ok.stop i H J S ha gr gd (by nofun),fun p n=>q2 p (.lst ys) n ⟨ys,rfl,rl⟩⟩
  ·rw[xc gd]at q;exact False.elim q
theorem of_imp:∀σ H Q,tOf K E m σ H Q->tOfF K E m σ H Q:=fun σ H Q hz6=>by obtain⟨env,S,J,ha,he,q⟩:=hz6;exact ⟨env,S,J,ha,he,q.map fun d S' J' H' _ h1 g k p o n r=>k J' (upd H' p o) (h1.push n) (g.trans (.push n)) (.ref p) (r.rep h1 n)⟩
theorem zM4 {j:Nat}:∀D σ H,tsOf K E (DS.sSet j m) D σ H->tOf K E m σ H (fun x H1=>gName j x σ H1 D.nx):=fun D σ H hz7=>by obtain⟨env,S,J,ha,he,q⟩:=hz7;exact ⟨env,S,J,ha,he,q.then.imp fun d S1 J1 H1 _ a1 g1 q1 v rv=>q1 J1 H1 _ a1 .refl ((he.grow g1).set rv)⟩
theorem zOl {own fre:List Str}{ix:List Nat}{n:Nat}{scope:Scope}{tg elt iter:Expr}{ifs:List Expr}{im:DS.IM}{g:DS.GM}(hc:X.calm=true) (S:CompScope X own fre ix scope) (hi:DI X K E tg iter im)
  (hg:∀cl C s H fp,DG (zA6 X (own++fre) scope cl C s H fp) K tg g) (ht:∀cl C s H fp,DIf (zA6 X (own++fre) scope cl C s H fp) K E ifs mt) (he:∀cl C s H fp,DE (zA6 X (own++fre) scope cl C s H fp) K E elt m)
  (hn:own.length=n:=by rfl) (h:nse iter=true:=by rfl):DF X K E (.ListComp elt [⟨tg,iter,ifs,0⟩] scope pos) (DS.zAn n ix im g mt m):=by
 subst hn
 exact⟨(qlcomp' hc S hi.h (fun _ _ _ _ _=>(hg _ _ _ _ _).h) (fun _ _ _ _ _=>(ht _ _ _ _ _).h) (fun _ _ _ _ _=>(he _ _ _ _ _).h) h).imp zFo⟩
theorem zKp {own fre:List Str}{ix:List Nat}{n:Nat}{scope:Scope}{j:Nat}{x:Str}{cpos pos':Pos}{tg elt iter:Expr}{ifs:List Expr}{im:DS.IM}{g:DS.GM}(hN:X.N.Nodup) (hix:X.N[j]?=some x) (hx:Loc X.env.scope x)
  (hc:X.calm=true) (S:CompScope X own fre ix scope) (hi:DI X K E tg iter im)
  (hg:∀cl C s H fp,DG (zA6 X (own++fre) scope cl C s H fp) K tg g) (ht:∀cl C s H fp,DIf (zA6 X (own++fre) scope cl C s H fp) K E ifs mt) (he:∀cl C s H fp,DE (zA6 X (own++fre) scope cl C s H fp) K E elt m)
  (hsw:swapsWith (.ListComp elt [⟨tg,iter,ifs,0⟩] scope cpos) (some (.Name x pos')) pos.line X.env=pure true:=by rfl) (h:nse iter=true:=by rfl) (hf:X.fn x=true\/X.env.scope.names.lookup x=some .local:=by first|exact .inl rfl|exact .inr rfl|assumption) (hn:own.length=n:=by rfl):
  DS1 X K E (.Assign [.Name x pos'] (.ListComp elt [⟨tg,iter,ifs,0⟩] scope cpos) pos) (DS.sSet j (DS.zAn n ix im g mt m)):=by
 subst hn
 exact⟨(qsetc' hN hix hx hc S hi.h (fun _ _ _ _ _=>(hg _ _ _ _ _).h) (fun _ _ _ _ _=>(ht _ _ _ _ _).h) (fun _ _ _ _ _=>(he _ _ _ _ _).h) hsw h hf).imp fun D σ H h=>zFo σ H _ (of_imp σ H _ (zM4 D σ H h))⟩
end
section
variable {P:Program}{w:World}{K:PySem.W.Frag}{mg:Str->Option Value}{base:Heap}
theorem zE5 {E:XE}{J:Js}{H:Hp}{np nl:Nat}{b:DS.SM}{ds:List D}{S:Store}{P:D->Store->Js->Hp->Prop}(h:Post K E J H (DS.zAt np nl b ds S) P):ds.length=np:=by
 unfold DS.zAt at h
 by_cases e:ds.length=np
 ·exact e
 ·rw[xc e]at h;exact False.elim h
theorem zF4 {J:Js}{H:Hp}{ds:List D}{vs:List V}{N:List Str}(r:RepL K J H ds vs):RepE K J H (ds.map some++List.replicate (N.length-ds.length) none) (start N vs):=by
 refine⟨by simp[start,r.length],fun i d e=>?_⟩
 unfold start
 by_cases hi:i<ds.length
 ·rw[xK (by simpa using hi),xV]at e
  rw[xK (by simpa[<- r.length]using hi),xV]
  cases ed:ds[i]? with
  | none=>rw[ed]at e;cases e
  | some d'=>
   rw[ed]at e;cases e
   obtain⟨x,ex,rx⟩:=r.get ed
   exact⟨x,by rw[ex];rfl,rx⟩
 ·rw[xU (by simpa using hi),List.getElem?_replicate]at e
  split at e <;> cases e
theorem zOs {J:Js}{H:Hp}{np:Nat}{N:List Str}{b:DS.SM}{ds:List D}{vs:List V}{S:Store}{Q:VK}(ha:AbS K J S H) (r:RepL K J H ds vs)
  (h:Post K XE0 J H (DS.zAt np N.length b ds S) (fun d _ J' H'=>∀v,Rep K J' H' d v->Q v H')):tsOf K XE0 b { nx:=fun _ H'=>Q .non H',rt:=Q } (start N vs) H:=by
 have hl:=zE5 h
 unfold DS.zAt at h
 rw[xb hl,<- hl]at h
 refine⟨_,S,J,ha,zF4 r,?_⟩
 have fin:∀d S' J' H' v,AbS K J' S' H'->Grow J H J' H'->Rep K J' H' d v->Post K XE0 J H (DS.fin S d S') (fun d _ J' H'=>∀v,Rep K J' H' d v->Q v H')->Q v H':=fun d S' J' H' v a1 g1 r1 q=>by
  cases e:DS.fin S d S' with
  | ok d2 S2=>
   obtain⟨J2,a2,g2,r2⟩:=zQj ha g1 a1 r1 e
   rw[e]at q
   exact q J2 H' a2 g2 v r2
  | ex x S2=>rw[e]at q;exact False.elim (q J' H' (by
    exfalso
    unfold DS.fin at e
    split at e <;> try cases e
    split at e <;> try cases e
    split at e <;> try cases e
    split at e <;> try cases e
    split at e <;> cases e) g1)
  | bad=>rw[e]at q;exact False.elim q
 cases e:b (ds.map some++List.replicate (N.length-ds.length) none) S with
 | nx e1 S1=>rw[e]at h;exact fun J' H' σ h1 g1 _=>fin .non S1 J' H' .non h1 g1 rfl h
 | rt d S1=>rw[e]at h;exact fun J' H' v h1 g1 r1=>fin d S1 J' H' v h1 g1 r1 h
 | bk e1 S1=>rw[e]at h;exact False.elim h
 | ct e1 S1=>rw[e]at h;exact False.elim h
 | ex x S1=>rw[e]at h;exact h
 | bad=>rw[e]at h;exact False.elim h
theorem fn_d {k:Nat}{x qual:Str}{st:Stmt}{f:Addr}{fd:FuncData}{N ps:List Str}{np nl:Nat}{b:DS.SM}(F:Fun K x qual st f fd) (Sc:zBe N ps (zA4 st)) (hnp:ps.length=np) (hnl:N.length=nl)
  (hb:∀(cdv:Value) (A:Around) (outer:List PySem.Env) (s:Shared) (H:Hp) (E:XK),Room k (A.deeper (envOfC qual (zA4 st) s.heap.objs.size f cdv))->DSs (cxOf CX0 P w K mg base N qual (zA4 st) f cdv A outer s H E).nox K XE0 (zAc st) b):
  FnOk P w K mg base CX0 (k+1) f fd ps (spOf K XE0 (DS.zAt np nl b)):=by
 subst hnp hnl
 refine F.ok Sc (fun vs H Q E h=>?_) (fun cdv A outer s H vs Q E hr h=>?_)
 ·obtain⟨J,S,ds,ha,r,q⟩:=h
  rw[<- r.length];exact zE5 q
 ·obtain⟨J,S,ds,ha,r,q⟩:=h
  exact⟨_,(hb cdv A outer s H E hr).h.h,zOs ha r q⟩
theorem zL0 {J:Js}{H:Hp}{np:Nat}{N:List Str}{b:DS.SM}{ds:List D}{vs:List V}{S:Store}{Q:VK}(hl:ds.length=np) (ha:AbS K J S H) (r:RepL K J H ds vs)
  (h:Post K XE0 J H (DS.zCm np N.length b ds S) (fun d _ J' H'=>∀v,Rep K J' H' d v->Q v H')):tsOf K XE0 b { nx:=fun _ H'=>Q .non H',rt:=Q } (start N vs) H:=by
 unfold DS.zCm at h
 rw[xb hl,<- hl]at h
 refine⟨_,S,J,ha,zF4 r,?_⟩
 cases e:b (ds.map some++List.replicate (N.length-ds.length) none) S with
 | nx e1 S1=>rw[e]at h;exact fun J' H' σ h1 g1 _=>h J' H' h1 g1 .non rfl
 | rt d S1=>rw[e]at h;exact fun J' H' v h1 g1 r1=>h J' H' h1 g1 v r1
 | bk e1 S1=>rw[e]at h;exact False.elim h
 | ct e1 S1=>rw[e]at h;exact False.elim h
 | ex x S1=>rw[e]at h;exact h
 | bad=>rw[e]at h;exact False.elim h
theorem fn_r {k:Nat}{x qual:Str}{st:Stmt}{f:Addr}{fd:FuncData}{N ps:List Str}{np nl:Nat}{b:DS.SM}(F:Fun K x qual st f fd) (Sc:zBe N ps (zA4 st)) (hnp:ps.length=np) (hnl:N.length=nl)
  (hb:∀(cdv:Value) (A:Around) (outer:List PySem.Env) (s:Shared) (H:Hp) (E:XK),Room k (A.deeper (envOfC qual (zA4 st) s.heap.objs.size f cdv))->DSs (cxOf CX0 P w K mg base N qual (zA4 st) f cdv A outer s H E).nox K XE0 (zAc st) b):
  FnOk P w K mg base CX0 (k+1) f fd ps (spOf K XE0 (DS.zCm np nl b)):=by
 subst hnp hnl
 have cl:∀{J:Js}{H:Hp}{ds:List D}{S:Store}{P:D->Store->Js->Hp->Prop},Post K XE0 J H (DS.zCm ps.length N.length b ds S) P->ds.length=ps.length:=fun {J H ds S P} h=>by
  unfold DS.zCm at h
  by_cases e:ds.length=ps.length
  ·exact e
  ·rw[xc e]at h;exact False.elim h
 refine F.ok Sc (fun vs H Q E h=>?_) (fun cdv A outer s H vs Q E hr h=>?_)
 ·obtain⟨J,S,ds,ha,r,q⟩:=h
  rw[<- r.length];exact cl q
 ·obtain⟨J,S,ds,ha,r,q⟩:=h
  exact⟨_,(hb cdv A outer s H E hr).h.h,zL0 (cl q) ha r q⟩
end
end L2
namespace DS
open PySem (Str)
noncomputable section
open Classical
noncomputable def big:Nat:=2 ^ 5000
noncomputable def sm (x:Int):Prop:=x.natAbs<big
theorem zP3 {x:Int}(h1:-(2 ^ 200)<x) (h2:x<2 ^ 200):sm x:=by
 have h:(2:Nat) ^ 200<=big:=Nat.pow_le_pow_right (by decide) (by decide)
 have e:((2 ^ 200:Nat):Int)=2 ^ 200:=by norm_cast
 unfold sm
 lia
noncomputable def addD (S:Store) (x y:D):Option D:=match x,y with
 | .int a,.int b=>some (.int (a+b))
 | .str a,.str b=>if a.length+b.length<=most then some (.str (a++b))else none
 | .tup l,.tup m=>if l≠[]/\l.length+m.length<=most then some (.tup (l++m))else none
 | x,y=>match litems S x,litems S y with
  | some l,some m=>if l.length+m.length<=most then some (.lst (l++m))else none
  | _,_=>none
noncomputable def catD (S:Store) (x y:D):Option D:=match litems S x,litems S y with
 | some l,some m=>if l.length+m.length<=most then some (.lst (l++m))else none
 | _,_=>none
noncomputable def subD (_:Store) (x y:D):Option D:=match x,y with
 | .int a,.int b=>some (.int (a-b))
 | _,_=>none
noncomputable def mulD (S:Store) (x y:D):Option D:=match x,y with
 | .int a,.int b=>if sm a/\sm b then some (.int (a*b))else none
 | _,_=>none
noncomputable def zI6 (_:Store) (x y:D):Option D:=match x,y with
 | .int a,.int b=>if b≠0/\sm b then some (.int (a.fdiv b))else none
 | _,_=>none
noncomputable def modD (_:Store) (x y:D):Option D:=match x,y with
 | .int a,.int b=>if 0<b then some (.int (a % b))else none
 | _,_=>none
noncomputable def powD (_:Store) (x y:D):Option D:=match x,y with
 | .int a,.int b=>if 0<=b/\b<=1000000/\a.natAbs<2 ^ 64 then some (.int (a ^ b.toNat))else none
 | _,_=>none
noncomputable def okL (l m:List D):Prop:=zBp l=true/\zBp m=true/\cmpL l m=true/\depL l<=60
noncomputable def eqO (S:Store) (x y:D):Option Bool:=match look S x,look S y with
 | some (.int a),some (.int b)=>some (decide (a=b))
 | some (.bl a),some (.bl b)=>some (decide (a=b))
 | some (.str a),some (.str b)=>some (decide (a=b))
 | some (.tup l),some (.tup m)=>if okL l m then some (decide (l=m))else none
 | some (.lst l),some (.lst m)=>if okL l m then some (decide (l=m))else none
 | _,_=>none
noncomputable def eqD (S:Store) (x y:D):Option D:=(eqO S x y).map D.bl
noncomputable def neD (S:Store) (x y:D):Option D:=(eqO S x y).map fun b=>.bl (!b)
noncomputable def gtD (_:Store) (x y:D):Option D:=match x,y with
 | .int a,.int b=>some (.bl (decide (b<a)))
 | _,_=>none
noncomputable def geD (_:Store) (x y:D):Option D:=match x,y with
 | .int a,.int b=>some (.bl (decide (b<=a)))
 | _,_=>none
noncomputable def ixN (n:Nat) (i:Int):Option Nat:=if 0<=i then(if i<n then some i.toNat else none)else if -(n:Int)<=i then some (i+n).toNat else none
noncomputable def atL {α:Type}(xs:List α) (i:Int):Option α:=(ixN xs.length i).bind fun j=>xs[j]?
noncomputable def look2 (ks vs:List D) (k:D):Option D:=match ks,vs with
 | a::r,v::t=>if a=k then some v else look2 r t k
 | _,_=>none
noncomputable def isKey:D->Bool
 | .int _=>true
 | .str _=>true
 | .tup l=>l.all fun d=>match d with
  | .int _=>true
  | .str _=>true
  | _=>false
 | _=>false
noncomputable def zBw (t:Bool) (k:D):Bool:=isKey k && (match k with
 | .tup _=>t
 | _=>!t)
noncomputable def ixD (S:Store) (x y:D):Option D:=match look S x,y with
 | some (.tup l),.int i=>atL l i
 | some (.lst l),.int i=>atL l i
 | some (.str z),.int i=>if z.length<=most then(atL z.cps.toList i).map fun c=>.str ⟨#[c]⟩else none
 | some (.dct t ks vs),k=>if zBw t k=true then look2 ks vs k else none
 | _,_=>none
noncomputable def sIx (n d:Nat):Option Int->Nat
 | none=>d
 | some v=>if v<0 then(v+(n:Int)).toNat else min v.toNat n
noncomputable def cutL {α:Type}(xs:List α) (lo hi:Option Int):List α:=(xs.drop (sIx xs.length 0 lo)).take (sIx xs.length xs.length hi-sIx xs.length 0 lo)
noncomputable def slD (S:Store) (x:D) (lo hi:Option Int):Option D:=match x with
 | .tup l=>some (.tup (cutL l lo hi))
 | .ktup l=>if sIx l.length 0 lo=0/\sIx l.length l.length hi=l.length then some (.ktup l)else some (.tup (cutL l lo hi))
 | x=>match look S x with
  | some (.lst l)=>some (.lst (cutL l lo hi))
  | _=>none
noncomputable def revL (S:Store) (x:D):Option D:=match look S x with
 | some (.lst l)=>some (.lst l.reverse)
 | _=>none
noncomputable def repl2:List D->List D->D->D->List D
 | a::r,w::t,k,v=>(if a=k then v else w)::repl2 r t k v
 | _,_,_,_=>[]
noncomputable def put2 (ks vs:List D) (k v:D):List D × List D:=if k∈ks then(ks,repl2 ks vs k v)else(ks++[k],vs++[v])
noncomputable def lenB (S:Store):List D->Option D
 | [d]=>match look S d with
  | some (.tup l)=>some (.int l.length)
  | some (.lst l)=>some (.int l.length)
  | some (.dct _ ks _)=>some (.int ks.length)
  | some (.str x)=>if x.length<=most then some (.int x.length)else none
  | _=>none
 | _=>none
noncomputable def bools:List D->Option (List Bool)
 | []=>some []
 | .bl b::r=>(bools r).map (b::·)
 | _=>none
noncomputable def allB (S:Store):List D->Option D
 | [d]=>((litems S d).bind bools).map fun bs=>.bl (bs.all id)
 | _=>none
noncomputable def max2B (_:Store):List D->Option D
 | [.int i,.int j]=>some (.int (if j > i then j else i))
 | _=>none
noncomputable def zAu (S:Store) (o:D) (xs:List D):Option (D × Store):=match o,xs with
 | .ref n,[v]=>match S[n]? with
  | some (.lst l)=>if l.length<most then some (.non,S.set n (.lst (l++[v])))else none
  | _=>none
 | _,_=>none
noncomputable def popM (S:Store) (o:D) (xs:List D):Option (D × Store):=match o,xs with
 | .ref n,[]=>match S[n]? with
  | some (.lst l)=>(l[l.length-1]?).map fun v=>(v,S.set n (.lst l.dropLast))
  | _=>none
 | _,_=>none
end
end DS
namespace L2
open PySem PySem.Spec PyProof.Rows
open DS (D Store Exn Rs SR)
section
variable {X:Cx}{K:PySem.W.Frag}{E:XE}{J:Js}{S:Store}{H:Hp}{d d1 d2:D}{v:V}
theorem Inv.lstR {pins:List (Addr × Obj)}{σ:St}{s:Shared}{l:Addr}{xs:List V}(I:Inv X pins σ H s) (hH:Rd H l (.lst xs)):xs.length<=sizeLine/\∃(its:List Value) (n:Nat),Vals xs its/\xs.length=its.length/\s.heap.get? l=some { cls:=.type "list",data:=.seq its.toArray n }:=by
 obtain⟨z,its,n,r,e⟩:=hH.ok I.hok
 exact⟨z,its,n,r,r.length,e⟩
theorem zBh {l:List D}(ha:AbS K J S H) (r:Rep K J H d v) (e:DS.litems S d=some l):∃a xs,v=.ref a/\Rd H a (.lst xs)/\RepL K J H l xs:=by
 cases d with
 | lst ds=>cases e;obtain⟨a,xs,rfl,t,rl⟩:=r;exact⟨a,xs,rfl,.inl t.1,rl⟩
 | ref n=>
  obtain⟨a,ea,rfl⟩:=r
  obtain⟨c,ec,o,eo,rc⟩:=ha.at ea
  unfold DS.litems DS.look at e
  simp only[ec]at e
  cases c with
  | lst ds=>cases e;obtain⟨xs,rfl,rl⟩:=rc;exact⟨a,xs,rfl,.inl eo,rl⟩
  | dct _ ks vs=>cases e
  | _=>exact False.elim rc
 | _=>cases e
theorem zFi {l:List D}(ha:AbS K J S H) (r:Rep K J H d v) (e:DS.items S d=some l):∃a xs,v=.ref a/\(SqL K H a xs\/SqT K H a xs)/\RepL K J H l xs:=by
 cases d with
 | tup ds=>cases e;obtain⟨a,xs,rfl,t,rl⟩:=r;exact⟨a,xs,rfl,.inr t.sq,rl⟩
 | ktup ds=>cases e;obtain⟨a,xs,rfl,t,rl⟩:=r;exact⟨a,xs,rfl,.inr t.sq,rl⟩
 | klst ds=>cases e;obtain⟨a,xs,rfl,t,rl⟩:=r;exact⟨a,xs,rfl,.inl t.sq,rl⟩
 | lst ds=>cases e;obtain⟨a,xs,rfl,t,rl⟩:=r;exact⟨a,xs,rfl,.inl t.sq,rl⟩
 | ref n=>
  obtain⟨a,ea,rfl⟩:=r
  obtain⟨c,ec,o,eo,rc⟩:=ha.at ea
  unfold DS.items DS.look at e
  simp only[ec]at e
  cases c with
  | lst ds=>cases e;obtain⟨xs,rfl,rl⟩:=rc;exact⟨a,xs,rfl,.inl (.inl (.inl eo)),rl⟩
  | dct _ ks vs=>cases e
  | _=>exact False.elim rc
 | _=>cases e
theorem zN1:OpR X (binaryOp .Sub) (r2Of K DS.subD):=by
 intro pins s σ H x y v u Q I rx ry hq7
 obtain⟨J,S,d1,d2,d,ha,r1,r2,e,k⟩:=hq7
 unfold DS.subD at e
 split at e
 ·cases e;obtain rfl:=r1;obtain rfl:=r2
  exact zPz pins s σ H _ _ v u Q I rx ry ⟨_,_,rfl,rfl,k _ H ha .refl rfl⟩
 ·cases e
theorem zHj:OpR X (binaryOp .Mult) (r2Of K DS.mulD):=by
 intro pins s σ H x y v u Q I rx ry hq8
 obtain⟨J,S,d1,d2,d,ha,r1,r2,e,k⟩:=hq8
 unfold DS.mulD at e
 split at e
 ·split at e
  ·rename_i h
   cases e;obtain rfl:=r1;obtain rfl:=r2
   exact zN5 pins s σ H _ _ v u Q I rx ry ⟨_,_,rfl,rfl,h,k _ H ha .refl rfl⟩
  ·cases e
 ·cases e
theorem zK3:OpR X (binaryOp .FloorDiv) (r2Of K DS.zI6):=by
 intro pins s σ H x y v u Q I rx ry hq9
 obtain⟨J,S,d1,d2,d,ha,r1,r2,e,k⟩:=hq9
 unfold DS.zI6 at e
 split at e
 ·split at e
  ·rename_i h
   cases e;obtain rfl:=r1;obtain rfl:=r2
   exact zK2 pins s σ H _ _ v u Q I rx ry ⟨_,_,rfl,rfl,h,k _ H ha .refl rfl⟩
  ·cases e
 ·cases e
theorem zN7:OpR X (binaryOp .Mod) (r2Of K DS.modD):=by
 intro pins s σ H x y v u Q I rx ry hq10
 obtain⟨J,S,d1,d2,d,ha,r1,r2,e,k⟩:=hq10
 unfold DS.modD at e
 split at e
 ·split at e
  ·rename_i h
   cases e;obtain rfl:=r1;obtain rfl:=r2
   exact zQ1 pins s σ H _ _ v u Q I rx ry ⟨_,_,rfl,rfl,h,k _ H ha .refl rfl⟩
  ·cases e
 ·cases e
theorem zN2:OpR X (binaryOp .Pow) (r2Of K DS.powD):=by
 intro pins s σ H x y v u Q I rx ry hq11
 obtain⟨J,S,d1,d2,d,ha,r1,r2,e,k⟩:=hq11
 unfold DS.powD at e
 split at e
 ·split at e
  ·rename_i h
   cases e;obtain rfl:=r1;obtain rfl:=r2
   exact zQ0 pins s σ H _ _ v u Q I rx ry ⟨_,_,rfl,rfl,h,k _ H ha .refl rfl⟩
  ·cases e
 ·cases e
theorem zIt {pins:List (Addr × Obj)}{σ:St}{s:Shared}{a b:Addr}{xs ys:List V}{Q:VK}(I:Inv X pins σ H s) (h1:Rd H a (.lst xs)) (h2:Rd H b (.lst ys)) (hz:xs.length+ys.length<=sizeLine) (q:∀p,H p=none->Q (.ref p) (upd H p (.lst (xs++ys)))):
  wpAny (model X.prog X.w) X.A (binaryOp .Add (.ref a) (.ref b)) (EP X pins σ Q) X.xe s:=by
 obtain⟨z,its,n,r,hl,e⟩:=I.lstR h1
 obtain⟨z2,its2,n2,r2,hl2,e2⟩:=I.lstR h2
 refine PySem.P.add_list e e2 ?_ (by rw[xm,xm,<- hl,<- hl2];exact hz)
 rw[show its.toArray++its2.toArray=(its++its2).toArray by simp]
 exact⟨.ref _,_,I.lnew (r.append r2) (by rw[xZ];exact hz),rfl,q _ I.fresh⟩
theorem zF9:OpR X (binaryOp .Add) (zMa K DS.catD):=by
 intro pins s σ H x y v u Q I rx ry hq12
 obtain⟨J,S,d1,d2,d,ha,r1,r2,e,k⟩:=hq12
 unfold DS.catD at e
 split at e
 ·rename_i l m e1 e2
  split at e
  ·rename_i h
   cases e
   obtain⟨a,xs,rfl,h1,q1⟩:=zBh ha r1 e1
   obtain⟨b,ys,rfl,h2,q2⟩:=zBh ha r2 e2
   cases rx
   cases ry
   exact zIt I h1 h2 (by rw[<- q1.length,<- q2.length];exact h) fun p n=>k p _ H ha .refl n ⟨_,rfl,q1.append q2⟩
  ·cases e
 ·cases e
theorem zNb (hK:X.K=K:=by rfl):OpR X (binaryOp .Add) (r2Of K DS.addD):=by
 subst hK
 intro pins s σ H x y v u Q I rx ry hq13
 obtain⟨J,S,d1,d2,d,ha,r1,r2,e,k⟩:=hq13
 unfold DS.addD at e
 split at e
 ·cases e;obtain rfl:=r1;obtain rfl:=r2
  exact zQ4 pins s σ H _ _ v u Q I rx ry ⟨_,_,rfl,rfl,k _ H ha .refl rfl⟩
 ·split at e
  ·rename_i h
   cases e;obtain rfl:=r1;obtain rfl:=r2
   exact zG1 pins s σ H _ _ v u Q I rx ry ⟨_,_,rfl,rfl,h,k _ H ha .refl rfl⟩
  ·cases e
 ·split at e
  ·rename_i l m h
   cases e
   obtain⟨a,xs,rfl,t1,q1⟩:=r1
   obtain⟨b,ys,rfl,t2,q2⟩:=r2
   have e1:=q1.length
   have e2:=q2.length
   refine zNa pins s σ H _ _ v u Q I rx ry ⟨a,b,xs,ys,rfl,rfl,t1.sq,t2.sq,fun z=>h.1 (by subst z;exact vQ e1),by rw[<- e1,<- e2];exact h.2,fun z=>?_,fun z p n=>?_⟩
   ·subst z
    obtain rfl:m=[]:=vQ e2
    rw[vo]at k
    exact k _ H ha .refl ⟨a,xs,rfl,t1,q1⟩
   ·exact k _ _ (ha.push n) (.push n) ⟨p,_,rfl,⟨zA5,ha.out n⟩,RepL.grow (.push n) _ _ (q1.append q2)⟩
  ·cases e
 ·exact zF9 pins s σ H _ _ v u Q I rx ry ⟨J,S,d1,d2,d,ha,r1,r2,e,fun p o H' a1 g1 n r=>k _ _ (a1.push n) (g1.trans (.push n)) (r.rep a1 n)⟩
mutual
noncomputable def toDv:D->Dv
 | .non=>.non
 | .bl b=>.bl b
 | .int i=>.int i
 | .str x=>.str x
 | .tup l=>.tup (zBb l)
 | .lst l=>.lst (zBb l)
 | .dct _ _ _=>.non
 | .ktup _=>.non
 | .klst _=>.non
 | .st _=>.non
 | .ty _=>.non
 | .ref _=>.non
noncomputable def zBb:List D->List Dv
 | []=>[]
 | d::r=>toDv d::zBb r
end
mutual
theorem zF1:∀(d:D) (v:V),d.flat=true->Rep K J H d v->Den K H (toDv d) v
 | .non,_,_,r=>r
 | .bl _,_,_,r=>r
 | .int _,_,_,r=>r
 | .str _,_,_,r=>r
 | .tup l,v,f,⟨a,xs,e,t,rl⟩=>⟨a,xs,e,t.sq,zAv l xs f rl⟩
 | .lst l,v,f,⟨a,xs,e,t,rl⟩=>⟨a,xs,e,t.sq,zAv l xs f rl⟩
 | .dct _ _ _,_,f,_=>by cases f
 | .ktup _,_,f,_=>by cases f
 | .klst _,_,f,_=>by cases f
 | .st _,_,f,_=>by cases f
 | .ty _,_,f,_=>by cases f
 | .ref _,_,f,_=>by cases f
theorem zAv:∀(l:List D) (xs:List V),DS.zBp l=true->RepL K J H l xs->DenL K H (zBb l) xs
 | [],_,_,r=>r
 | d::l,xs,f,⟨x,r,e,h,t⟩=>by
  have f:(d.flat && DS.zBp l)=true:=f
  rw[xg]at f
  exact⟨x,r,e,zF1 d x f.1 h,zAv l r f.2 t⟩
end
mutual
theorem zJ5:∀(d e:D),d.flat=true->e.flat=true->toDv d=toDv e->d=e
 | .non,e,_,f,h=>by cases e <;> first|rfl|(exact Bool.noConfusion (show false=true from f))|(cases h;done)
 | .bl _,e,_,f,h=>by cases e <;> first|(cases h;rfl)|exact nomatch h|exact nomatch f
 | .int _,e,_,f,h=>by cases e <;> first|(cases h;rfl)|exact nomatch h|exact nomatch f
 | .str _,e,_,f,h=>by cases e <;> first|(cases h;rfl)|exact nomatch h|exact nomatch f
 | .tup l,e,f,f',h=>by
  cases e with
  | tup m=>exact congrArg D.tup (zBf l m f f' (Dv.tup.inj h))
  | _=>first|exact nomatch h|exact nomatch f'
 | .lst l,e,f,f',h=>by
  cases e with
  | lst m=>exact congrArg D.lst (zBf l m f f' (Dv.lst.inj h))
  | _=>first|exact nomatch h|exact nomatch f'
 | .dct _ _ _,_,f,_,_=>by cases f
 | .ktup _,_,f,_,_=>by cases f
 | .klst _,_,f,_,_=>by cases f
 | .st _,_,f,_,_=>by cases f
 | .ty _,_,f,_,_=>by cases f
 | .ref _,_,f,_,_=>by cases f
theorem zBf:∀(l m:List D),DS.zBp l=true->DS.zBp m=true->zBb l=zBb m->l=m
 | [],[],_,_,_=>rfl
 | [],_::_,_,_,h=>by cases h
 | _::_,[],_,_,h=>by cases h
 | d::l,e::m,f,f',h=>by
  have f:(d.flat && DS.zBp l)=true:=f
  have f':(e.flat && DS.zBp m)=true:=f'
  rw[xg]at f f'
  have h:=List.cons.inj (h)
  rw[zJ5 d e f.1 f'.1 h.1,zBf l m f.2 f'.2 h.2]
end
mutual
theorem zJ7:∀(d e:D),d.cmp e=true->(toDv d).cmp (toDv e)=true
 | .non,e,h=>by cases e <;> first|rfl|cases h
 | .bl _,e,h=>by cases e <;> first|rfl|cases h
 | .int _,e,h=>by cases e <;> first|rfl|cases h
 | .str _,e,h=>by cases e <;> first|rfl|cases h
 | .tup l,e,h=>by
  cases e with
  | tup m=>exact zAl l m h
  | _=>cases h
 | .lst l,e,h=>by
  cases e with
  | lst m=>exact zAl l m h
  | _=>cases h
 | .dct _ _ _,e,h=>by cases e <;> cases h
 | .ktup _,e,h=>by cases e <;> cases h
 | .klst _,e,h=>by cases e <;> cases h
 | .st _,e,h=>by cases e <;> cases h
 | .ty _,e,h=>by cases e <;> cases h
 | .ref _,e,h=>by cases e <;> cases h
theorem zAl:∀(l m:List D),DS.cmpL l m=true->L2.cmpL (zBb l) (zBb m)=true
 | [],[],_=>rfl
 | [],_::_,_=>rfl
 | _::_,[],_=>rfl
 | d::l,e::m,h=>by
  have h:(d.cmp e && DS.cmpL l m)=true:=h
  rw[xg]at h
  show((toDv d).cmp (toDv e) && L2.cmpL (zBb l) (zBb m))=true
  rw[zJ7 d e h.1,zAl l m h.2];rfl
end
mutual
theorem zJ6:∀(d:D),(toDv d).dep<=d.dep
 | .tup l=>Nat.succ_le_succ (zB0 l)
 | .lst l=>Nat.succ_le_succ (zB0 l)
 | .non=>xh _
 | .bl _=>xh _
 | .int _=>xh _
 | .str _=>xh _
 | .dct _ _ _=>xh _
 | .ktup _=>xh _
 | .klst _=>xh _
 | .st _=>xh _
 | .ty _=>xh _
 | .ref _=>xh _
theorem zB0:∀(l:List D),L2.depL (zBb l)<=DS.depL l
 | []=>xh _
 | d::l=>by
  show max (toDv d).dep (L2.depL (zBb l))<=max d.dep (DS.depL l)
  have:=zJ6 d
  have:=zB0 l
  lia
end
open Classical in
theorem zC0 {l m:List D}(f:DS.zBp l=true) (f':DS.zBp m=true):eqvL (zBb l) (zBb m)=decide (l=m):=by
 by_cases e:l=m
 ·subst e
  rw[xD rfl]
  exact(zAx _ _).mpr rfl
 ·rw[xB e]
  cases q:eqvL (zBb l) (zBb m)with
  | false=>rfl
  | true=>exact absurd (zBf l m f f' ((zAx _ _).mp q)) e
theorem zBy {c:D}(ha:AbS K J S H) (r:Rep K J H d v) (e:DS.look S d=some c) (f:c.flat=true):Den K H (toDv c) v:=by
 cases d with
 | ref n=>
  obtain⟨a,ea,rfl⟩:=r
  obtain⟨c',ec,o,eo,rc⟩:=ha.at ea
  have e:S[n]?=some c:=e
  rw[ec]at e;cases e
  cases c with
  | lst ds=>obtain⟨xs,rfl,rl⟩:=rc;exact⟨a,xs,rfl,.inl (.inl eo),zAv _ _ f rl⟩
  | dct _ ks vs=>cases f
  | _=>exact False.elim rc
 | ktup l=>cases e;obtain⟨a,xs,rfl,t,rl⟩:=r;exact⟨a,xs,rfl,t.sq,zAv _ _ f rl⟩
 | klst l=>cases e;obtain⟨a,xs,rfl,t,rl⟩:=r;exact⟨a,xs,rfl,t.sq,zAv _ _ f rl⟩
 | _=>cases e;exact zF1 _ _ f r
open Classical in
theorem zLi {pins:List (Addr × Obj)}{σ:St}{s:Shared}{x y:V}{u w:Value}{Q:VK}{b:Bool}(neg:Bool) (hu:X.A.units+64<cLine) (I:Inv X pins σ H s) (rx:RelV x u) (ry:RelV y w) (ha:AbS X.K J S H) (r1:Rep X.K J H d1 x) (r2:Rep X.K J H d2 y) (e:DS.eqO S d1 d2=some b)
  (k:Q (.bl (if neg then !b else b)) H):wpAny (model X.prog X.w) X.A (compareOp (if neg then .NotEq else .Eq) u w) (EP X pins σ Q) X.xe s:=by
 unfold DS.eqO at e
 have sc:∀(c1 c2:D) (v1 v2:V),DS.look S d1=some c1->DS.look S d2=some c2->(∀z,c1≠.lst z)->(∀z z' z2,c1≠.dct z z' z2)->(∀z,c1≠.tup z)->(∀z,c2≠.lst z)->(∀z z' z2,c2≠.dct z z' z2)->(∀z,c2≠.tup z)->Rep X.K J H c1 x/\Rep X.K J H c2 y:=fun c1 c2 _ _ e1 e2 n1 n2 n1' n3 n4 n3'=>by
  have key:∀(d c:D) (v:V),Rep X.K J H d v->DS.look S d=some c->(∀z,c≠.lst z)->(∀z z' z2,c≠.dct z z' z2)->(∀z,c≠.tup z)->Rep X.K J H c v:=fun d c v r e n n' n2=>by
   cases d with
   | ref n0=>
    obtain⟨a,ea,rfl⟩:=r
    obtain⟨c',ec,o,eo,rc⟩:=ha.at ea
    have e:S[n0]?=some c:=e
    rw[ec]at e;cases e
    cases c with
    | lst ds=>exact absurd rfl (n ds)
    | dct t ks vs=>exact absurd rfl (n' t ks vs)
    | _=>exact False.elim rc
   | ktup l=>cases e;exact absurd rfl (n2 l)
   | klst l=>cases e;exact absurd rfl (n l)
   | _=>cases e;exact r
  exact⟨key _ _ _ r1 e1 n1 n2 n1',key _ _ _ r2 e2 n3 n4 n3'⟩
 split at e
 ·rename_i a b e1 e2
  obtain⟨q1,q2⟩:=sc _ _ x y e1 e2 (fun _ z=>nomatch z) (fun _ _ _ z=>nomatch z) (fun _ z=>nomatch z) (fun _ z=>nomatch z) (fun _ _ _ z=>nomatch z) (fun _ z=>nomatch z)
  obtain rfl:=q1;obtain rfl:=q2
  cases e
  have ed:decide (V.int a=V.int b)=decide (a=b):=by
   by_cases z:a=b
   ·subst z;simp
   ·rw[xB z,xB fun q=>z (V.int.inj q)]
  cases neg with
  | true=>exact zN4 pins s σ H _ _ u w Q I rx ry ⟨rfl,by rw[ed];exact k⟩
  | false=>exact zN9 pins s σ H _ _ u w Q I rx ry ⟨rfl,by rw[ed];exact k⟩
 ·rename_i a b e1 e2
  obtain⟨q1,q2⟩:=sc _ _ x y e1 e2 (fun _ z=>nomatch z) (fun _ _ _ z=>nomatch z) (fun _ z=>nomatch z) (fun _ z=>nomatch z) (fun _ _ _ z=>nomatch z) (fun _ z=>nomatch z)
  obtain rfl:=q1;obtain rfl:=q2
  cases e
  have ed:decide (V.bl a=V.bl b)=decide (a=b):=by
   by_cases z:a=b
   ·subst z;simp
   ·rw[xB z,xB fun q=>z (V.bl.inj q)]
  cases neg with
  | true=>exact zN4 pins s σ H _ _ u w Q I rx ry ⟨rfl,by rw[ed];exact k⟩
  | false=>exact zN9 pins s σ H _ _ u w Q I rx ry ⟨rfl,by rw[ed];exact k⟩
 ·rename_i a b e1 e2
  obtain⟨q1,q2⟩:=sc _ _ x y e1 e2 (fun _ z=>nomatch z) (fun _ _ _ z=>nomatch z) (fun _ z=>nomatch z) (fun _ z=>nomatch z) (fun _ _ _ z=>nomatch z) (fun _ z=>nomatch z)
  obtain rfl:=q1;obtain rfl:=q2
  cases e
  have ed:decide (V.str a=V.str b)=decide (a=b):=by
   by_cases z:a=b
   ·subst z;simp
   ·rw[xB z,xB fun q=>z (V.str.inj q)]
  cases neg with
  | true=>exact zN4 pins s σ H _ _ u w Q I rx ry ⟨rfl,by rw[ed];exact k⟩
  | false=>exact zN9 pins s σ H _ _ u w Q I rx ry ⟨rfl,by rw[ed];exact k⟩
 ·rename_i l m e1 e2
  split at e
  ·rename_i h
   cases e
   have q1:=zBy ha r1 e1 h.1
   have q2:=zBy ha r2 e2 h.2.1
   have hd:=xq (zB0 l) h.2.2.2
   cases neg with
   | true=>exact zL8 hu pins s σ H _ _ u w Q I rx ry (.inl ⟨_,_,q1,q2,zAl _ _ h.2.2.1,hd,by rw[zC0 h.1 h.2.1];exact k⟩)
   | false=>exact zLa hu pins s σ H _ _ u w Q I rx ry (.inl ⟨_,_,q1,q2,zAl _ _ h.2.2.1,hd,by rw[zC0 h.1 h.2.1];exact k⟩)
  ·cases e
 ·rename_i l m e1 e2
  split at e
  ·rename_i h
   cases e
   have q1:=zBy ha r1 e1 h.1
   have q2:=zBy ha r2 e2 h.2.1
   have hd:=xq (zB0 l) h.2.2.2
   cases neg with
   | true=>exact zL8 hu pins s σ H _ _ u w Q I rx ry (.inr ⟨_,_,q1,q2,zAl _ _ h.2.2.1,hd,by rw[zC0 h.1 h.2.1];exact k⟩)
   | false=>exact zLa hu pins s σ H _ _ u w Q I rx ry (.inr ⟨_,_,q1,q2,zAl _ _ h.2.2.1,hd,by rw[zC0 h.1 h.2.1];exact k⟩)
  ·cases e
 ·cases e
theorem zN8 (hu:X.A.units+64<cLine) (hK:X.K=K:=by rfl):OpR X (compareOp .Eq) (r2Of K DS.eqD):=by
 subst hK
 intro pins s σ H x y v u Q I rx ry hq14
 obtain⟨J,S,d1,d2,d,ha,r1,r2,e,k⟩:=hq14
 unfold DS.eqD at e
 cases e1:DS.eqO S d1 d2 with
 | none=>rw[e1]at e;cases e
 | some b=>rw[e1]at e;cases e;exact zLi false hu I rx ry ha r1 r2 e1 (k _ H ha .refl rfl)
theorem zN3 (hu:X.A.units+64<cLine) (hK:X.K=K:=by rfl):OpR X (compareOp .NotEq) (r2Of K DS.neD):=by
 subst hK
 intro pins s σ H x y v u Q I rx ry hq15
 obtain⟨J,S,d1,d2,d,ha,r1,r2,e,k⟩:=hq15
 unfold DS.neD at e
 cases e1:DS.eqO S d1 d2 with
 | none=>rw[e1]at e;cases e
 | some b=>rw[e1]at e;cases e;exact zLi true hu I rx ry ha r1 r2 e1 (k _ H ha .refl rfl)
end
end L2
namespace L2
open PySem PySem.Spec PyProof.Rows
open DS (D Store Exn Rs SR)
section
variable {X:Cx}{K:PySem.W.Frag}{E:XE}{J:Js}{S:Store}{H:Hp}{d d1 d2:D}{v:V}
theorem zQ2:OpR X (compareOp .Gt) (r2Of K DS.gtD):=by
 intro pins s σ H x y v u Q I rx ry hq16
 obtain⟨J,S,d1,d2,d,ha,r1,r2,e,k⟩:=hq16
 unfold DS.gtD at e
 split at e
 ·cases e;obtain rfl:=r1;obtain rfl:=r2
  exact zS2 pins s σ H _ _ v u Q I rx ry ⟨_,_,rfl,rfl,k _ H ha .refl (congrArg V.bl (by congr))⟩
 ·cases e
theorem zQ3:OpR X (compareOp .GtE) (r2Of K DS.geD):=by
 intro pins s σ H x y v u Q I rx ry hq17
 obtain⟨J,S,d1,d2,d,ha,r1,r2,e,k⟩:=hq17
 unfold DS.geD at e
 split at e
 ·cases e;obtain rfl:=r1;obtain rfl:=r2
  exact zS3 pins s σ H _ _ v u Q I rx ry ⟨_,_,rfl,rfl,k _ H ha .refl (congrArg V.bl (by congr))⟩
 ·cases e
theorem zRh {α β:Type}{l:List α}{xs:List β}{i:Int}{a:α}(hl:l.length=xs.length) (e:DS.atL l i=some a):∃j:Nat,l[j]?=some a/\∀b,xs[j]?=some b->atI xs i=some b:=by
 unfold DS.atL at e
 unfold atI
 rw[show DS.ixN l.length i=L2.ixN xs.length i by rw[hl];rfl]at e
 cases e1:L2.ixN xs.length i with
 | none=>rw[e1]at e;cases e
 | some j=>rw[e1]at e;exact⟨j,e,fun b eb=>eb⟩
theorem zDd {k k':Key}(h:keyD k=keyD k'):k=k':=by
 cases k <;> cases k' <;> first|(cases h;rfl)|cases h
theorem zDc {k:Key}(r:Rep K J H (keyD k) v):v=kV k:=by cases k <;> exact r
theorem zCu:∀{l m:List Key},l.map keyD=m.map keyD->l=m
 | [],[],_=>rfl
 | [],_::_,h=>by cases h
 | _::_,[],h=>by cases h
 | a::l,b::m,h=>by
  have h:=List.cons.inj h
  rw[zDd h.1,zCu h.2]
theorem zGu {k k':List Key}(h:zLx k=zLx k'):k=k':=zCu (D.tup.inj h)
theorem zF6 (h:DS.isKey d=true) (n:∀l,d≠.tup l):∃k,d=keyD k:=by
 cases d with
 | int i=>exact⟨.inl i,rfl⟩
 | str x=>exact⟨.inr x,rfl⟩
 | tup l=>exact absurd rfl (n l)
 | _=>cases h
theorem zHn:∀{l:List D},(l.all fun d=>match d with
  | .int _=>true
  | .str _=>true
  | _=>false)=true->∃k:List Key,l=k.map keyD
 | [],_=>⟨[],rfl⟩
 | d::l,h=>by
  rw[vc,xg]at h
  obtain⟨k,rfl⟩:=zHn h.2
  cases d with
  | int i=>exact⟨.inl i::k,rfl⟩
  | str x=>exact⟨.inr x::k,rfl⟩
  | _=>cases h.1
theorem zFf:∀{k:List Key}{xs:List V},RepL K J H (k.map keyD) xs->xs=k.map kV
 | [],_,h=>h
 | a::k,_,⟨x,r,e,h,t⟩=>by subst e;rw[zDc h,zFf t];rfl
open Classical in
theorem zEo {κ:Type}[DecidableEq κ] {f:κ->D}(fi:∀a b,f a=f b->a=b) (k:κ):∀{kvs:List (κ × V)}{vs:List D},RepL K J H vs (kvs.map (·.2))->
  (valV kvs k=none/\f k ∉ kvs.map (fun p=>f p.1)/\DS.look2 (kvs.map fun p=>f p.1) vs (f k)=none)\/∃w dv,valV kvs k=some w/\f k∈kvs.map (fun p=>f p.1)/\DS.look2 (kvs.map fun p=>f p.1) vs (f k)=some dv/\Rep K J H dv w
 | [],vs,r=>.inl ⟨rfl,by simp,by cases vs <;> rfl⟩
 | p::kvs,[],r=>by have h:p.2::kvs.map (·.2)=[]:=r;cases h
 | p::kvs,dv::vs,⟨x,t,e,h,rl⟩=>by
  have e:=List.cons.inj (e)
  obtain⟨rfl,rfl⟩:=e
  by_cases z:p.1=k
  ·refine .inr ⟨p.2,dv,zD2 z,by simp[z],?_,h⟩
   unfold DS.look2
   rw[xt]
   exact xb (by rw[z])
  ·have zf:f p.1≠f k:=fun q=>z (fi _ _ q)
   have e1:DS.look2 ((p::kvs).map fun p=>f p.1) (dv::vs) (f k)=DS.look2 (kvs.map fun p=>f p.1) vs (f k):=by
    rw[xt]
    conv=>lhs;unfold DS.look2
    exact xc zf
   rw[zD3 z,e1]
   rcases zEo fi k rl with⟨a1,a2,a3⟩|⟨w,dv',a1,a2,a3,a4⟩
   ·exact .inl ⟨a1,by simp[a2,xk zf] <;> simpa using a2,a3⟩
   ·exact .inr ⟨w,dv',a1,by rw[xt];exact xS _ a2,a3,a4⟩
theorem zOi {t:Bool}{ks vs:List D}{a:Addr}{o:HO}{xs:List V}{y:V}(he:Rd H a o) (ht:DOb o t ks xs) (rl:RepL K J H vs xs) (ry:Rep K J H d y) (hk:DS.zBw t d=true):
  (DGet H a y none/\d ∉ ks/\DS.look2 ks vs d=none)\/∃w dv,DGet H a y (some w)/\d∈ks/\DS.look2 ks vs d=some dv/\Rep K J H dv w:=by
 unfold DS.zBw at hk
 rw[xg]at hk
 rcases ht with⟨rfl,kvs,rfl,rfl,rfl⟩|⟨rfl,kvs,rfl,rfl,rfl⟩
 ·obtain⟨k,rfl⟩:=zF6 hk.1 fun l z=>by subst z;cases hk.2
  obtain rfl:=zDc ry
  rcases zEo (fun a b=>zDd) k rl with⟨a1,a2,a3⟩|⟨w,dv,a1,a2,a3,a4⟩
  ·exact .inl ⟨.inl ⟨kvs,k,he,rfl,a1.symm⟩,a2,a3⟩
  ·exact .inr ⟨w,dv,.inl ⟨kvs,k,he,rfl,a1.symm⟩,a2,a3,a4⟩
 ·cases d with
  | tup l=>
   obtain⟨k,rfl⟩:=zHn (hk.1)
   obtain⟨b,zs,rfl,tb,rz⟩:=ry
   obtain rfl:=zFf rz
   rcases zEo (fun a b=>zGu) k rl with⟨a1,a2,a3⟩|⟨w,dv,a1,a2,a3,a4⟩
   ·exact .inl ⟨.inr ⟨kvs,k,b,he,rfl,tb.1,a1.symm⟩,a2,a3⟩
   ·exact .inr ⟨w,dv,.inr ⟨kvs,k,b,he,rfl,tb.1,a1.symm⟩,a2,a3,a4⟩
  | _=>cases hk.2
theorem zLq {t:Bool}{ks vs:List D}(ha:AbS K J S H) (r:Rep K J H d v) (e:DS.look S d=some (.dct t ks vs)):∃a o xs,v=.ref a/\Rd H a o/\DOb o t ks xs/\RepL K J H vs xs:=by
 cases d with
 | dct t ks vs=>cases e;obtain⟨a,o,xs,rfl,_,h,q,rl⟩:=r;exact⟨a,o,xs,rfl,h,q,rl⟩
 | ref n=>
  obtain⟨a,ea,rfl⟩:=r
  obtain⟨c,ec,o,eo,rc⟩:=ha.at ea
  have e:S[n]?=_:=e
  rw[ec]at e;cases e
  obtain⟨xs,q,rl⟩:=rc
  exact⟨a,o,xs,rfl,.inl eo,q,rl⟩
 | _=>cases e
theorem zGx {x:Str}(ha:AbS K J S H) (r:Rep K J H d v) (e:DS.look S d=some (.str x)):v=.str x:=by
 cases d with
 | str x=>cases e;exact r
 | ref n=>
  obtain⟨a,ea,rfl⟩:=r
  obtain⟨c,ec,o,eo,rc⟩:=ha.at ea
  have e:S[n]?=_:=e
  rw[ec]at e;cases e
  exact False.elim rc
 | _=>cases e
theorem zB8 {l:List D}(e:DS.look S d=some (.tup l)\/DS.look S d=some (.lst l)):DS.items S d=some l:=by
 unfold DS.items
 rcases e with e|e <;> rw[e]
theorem ix_D (hu:X.A.units+1<cLine) (hK:X.K=K:=by rfl):IxR X (r2Of K DS.ixD):=by
 subst hK
 intro value slice pins s σ H x y v u Q I rx ry hq18 hs
 obtain⟨J,S,d1,d2,d,ha,r1,r2,e,k⟩:=hq18
 have seq:∀(l:List D) (i:Int),DS.items S d1=some l->d2=.int i->DS.atL l i=some d->wpAny (model X.prog X.w) X.A (subscriptTail value slice v u) (EP X pins σ Q) X.xe s:=fun l i e1 e2 e3=>by
  subst e2
  obtain rfl:=r2
  obtain⟨a,xs,rfl,hq,rl⟩:=zFi ha r1 e1
  obtain⟨j,ej,h⟩:=zRh rl.length e3
  obtain⟨w,ew,rw'⟩:=rl.get ej
  rcases hq with hq|hq
  ·exact zNn value slice pins s σ H _ _ v u Q I rx ry ⟨a,xs,i,w,rfl,rfl,hq,h w ew,k w H ha .refl rw'⟩ hs
  ·exact zQd value slice pins s σ H _ _ v u Q I rx ry ⟨a,xs,i,w,rfl,rfl,hq,h w ew,k w H ha .refl rw'⟩ hs
 unfold DS.ixD at e
 split at e
 ·rename_i l i e1;exact seq l i (zB8 (.inl e1)) rfl e
 ·rename_i l i e1;exact seq l i (zB8 (.inr e1)) rfl e
 ·rename_i z i e1
  split at e
  ·rename_i hz
   cases e2:DS.atL z.cps.toList i with
   | none=>rw[e2]at e;cases e
   | some c=>
    rw[e2]at e;cases e
    obtain rfl:=zGx ha r1 e1
    obtain rfl:=r2
    exact zQe value slice pins s σ H _ _ v u Q I rx ry ⟨z,i,c,rfl,rfl,hz,by unfold DS.atL at e2;unfold atI;exact e2,k _ H ha .refl rfl⟩ hs
  ·cases e
 ·rename_i t ks vs kk e1
  split at e
  ·rename_i hk
   obtain⟨a,o,xs,rfl,he,q,rl⟩:=zLq ha r1 e1
   rcases zOi he q rl r2 hk with⟨_,_,h⟩|⟨w,dv,g,_,h,rw'⟩
   ·rw[h]at e;cases e
   ·rw[h]at e;cases e
    obtain rfl:v=Value.ref a:=rx
    exact tail_any (zEq I g) PySem.F.slot_dict_getitem.lookup (zIk hu I g ry fun w' s3 I3 rw2=>⟨w,H,I3,rw2,k w H ha .refl rw'⟩) hs
  ·cases e
 ·cases e
theorem zAm {prog:Program}{w:World}{A:Around}{E:Value->Shared->Prop}{s:Shared}{t sl:Addr}{items:Array Value}{vl vu:Value}{lo hi:Option Int}{Q:Value->Shared->Prop}(ht:IsTup s.heap t items) (hs:s.heap.IsSliceOf sl vl vu .none) (pl:IsPart vl lo) (pu:IsPart vu hi)
  (hw:HT.sIx items.size 0 lo=0/\HT.sIx items.size items.size hi=items.size) (h:Q (.ref t) s):wpAny (model prog w) A (getItem (.ref t) (.ref sl)) Q E s:=by
 obtain⟨os,hos,hcs,hds⟩:=id hs
 have hTs:s.TypeIs (.ref sl) "slice":=⟨os,hos,hcs⟩
 unfold getItem
 try with_reducible refine xx ?_
 first|refine xa (xf ?_)|skip
 refine xa (wpAny_sequenceKey ht.typeIs (by decide) ?_)
 refine xa (wpAny_callSpecial?_slot ht.typeIs vj (wpAny_call_entry vj ht.typeIs entry_tuple_getitem ?_ (args_tuple_getitem _ _)))
 show wpAny _ _ (Builtin.Tuple.tupleItemsOf (.ref t) >>= _) _ _ s
 refine xa (tupleItemsOf_ ht ?_)
 refine xa (wpAny_typeOf hTs ?_)
 rw[xb (by decide)]
 refine xa (HT.sliceApplied_gen hs pl pu ?_)
 show wpAny _ _ (if(((HT.sIx items.size 0 lo:Nat):Int) == 0 && (1:Int) == 1 && (HT.sIx items.size items.size hi-HT.sIx items.size 0 lo) == items.size)=true then _ else _) _ _ s
 rw[xb (by rw[hw.1,hw.2];simp)]
 have tex:∀{Q:Bool->Shared->Prop},Q true s->wpAny (model prog w) A.in1 (Builtin.Tuple.tupleIsExact (.ref t)) Q E s:=fun {Q} q=>by
  unfold Builtin.Tuple.tupleIsExact
  refine xa (wpAny_typeOf ht.typeIs (xf ?_))
  exact q
 refine xa (tex ?_)
 rw[xb rfl]
 refine xa (wpAny_rule ?_)
 exact xf ⟨_,rfl,xf h⟩
theorem zEr {l:List D}{xs:List V}(rl:RepL K J H l xs) (lo hi:Option Int):RepL K J H (DS.cutL l lo hi) (cutV xs lo hi):=by
 unfold DS.cutL cutV
 rw[show DS.sIx l.length 0 lo=HT.sIx xs.length 0 lo by rw[rl.length];rfl,show DS.sIx l.length l.length hi=HT.sIx xs.length xs.length hi by rw[rl.length];rfl]
 exact(rl.drop _).take _
theorem zIl {l:List D}{xs:List V}{lo hi:Option Int}(rl:RepL K J H l xs) (hw:HT.sIx xs.length 0 lo=0/\HT.sIx xs.length xs.length hi=xs.length):DS.cutL l lo hi=l:=by
 unfold DS.cutL
 rw[show DS.sIx l.length 0 lo=HT.sIx xs.length 0 lo by rw[rl.length];rfl,show DS.sIx l.length l.length hi=HT.sIx xs.length xs.length hi by rw[rl.length];rfl,hw.1,hw.2,<- rl.length]
 simp
theorem zDt {l:List D}(ha:AbS K J S H) (r:Rep K J H d v) (e:DS.look S d=some (.lst l)):∃a xs,v=.ref a/\SqL K H a xs/\RepL K J H l xs:=by
 cases d with
 | lst l=>cases e;obtain⟨a,xs,rfl,t,rl⟩:=r;exact⟨a,xs,rfl,t.sq,rl⟩
 | klst l=>cases e;obtain⟨a,xs,rfl,t,rl⟩:=r;exact⟨a,xs,rfl,t.sq,rl⟩
 | ref n=>
  obtain⟨a,ea,rfl⟩:=r
  obtain⟨c,ec,o,eo,rc⟩:=ha.at ea
  have e:S[n]?=_:=e
  rw[ec]at e;cases e
  obtain⟨xs,rfl,rl⟩:=rc
  exact⟨a,xs,rfl,.inl (.inl eo),rl⟩
 | _=>cases e
theorem sl_D (hK:X.K=K:=by rfl):SlR X (slOf K DS.slD):=by
 subst hK
 intro pins s σ H x v vl vu lo hi sl Q I rx hs pl pu hq19
 obtain⟨J,S,d1,d,ha,r1,e,k⟩:=hq19
 unfold DS.slD at e
 split at e
 ·rename_i l
  cases e
  have r0:=r1
  obtain⟨a,xs,rfl,t,rl⟩:=r1
  by_cases hw:HT.sIx xs.length 0 lo=0/\HT.sIx xs.length xs.length hi=xs.length
  ·cases rx
   obtain⟨its,r,ht,hz⟩:=I.tuple t.sq
   have hlen:its.toArray.size=xs.length:=by rw[xm];exact r.length.symm
   refine⟨"tuple",_,vj.lookup,ht.typeIs,zAm ht hs pl pu (by rw[hlen];exact hw) ⟨.ref a,H,I,rfl,k _ H ha .refl ?_⟩⟩
   rw[zIl rl hw];exact r0
  ·exact zL4 pins s σ H _ v vl vu lo hi sl Q I rx hs pl pu ⟨a,xs,rfl,t.sq,hw,fun p n=>k _ _ (ha.push n) (.push n) ⟨p,_,rfl,⟨zA5,ha.out n⟩,RepL.grow (.push n) _ _ (zEr rl lo hi)⟩⟩
 ·rename_i l
  have r0:=r1
  obtain⟨a,xs,rfl,t,rl⟩:=r1
  split at e
  ·rename_i hw
   cases e
   have hw:HT.sIx xs.length 0 lo=0/\HT.sIx xs.length xs.length hi=xs.length:=by rw[<- rl.length];exact hw
   cases rx
   obtain⟨its,r,ht,hz⟩:=I.tuple (t.sq)
   have hlen:its.toArray.size=xs.length:=by rw[xm];exact r.length.symm
   exact⟨"tuple",_,vj.lookup,ht.typeIs,zAm ht hs pl pu (by rw[hlen];exact hw) ⟨.ref a,H,I,rfl,k _ H ha .refl r0⟩⟩
  ·rename_i hw
   cases e
   have hw:¬ (HT.sIx xs.length 0 lo=0/\HT.sIx xs.length xs.length hi=xs.length):=by rw[<- rl.length];exact hw
   exact zL4 pins s σ H _ v vl vu lo hi sl Q I rx hs pl pu ⟨a,xs,rfl,t.sq,hw,fun p n=>k _ _ (ha.push n) (.push n) ⟨p,_,rfl,⟨zA5,ha.out n⟩,RepL.grow (.push n) _ _ (zEr rl lo hi)⟩⟩
 ·split at e
  ·rename_i l e1
   cases e
   obtain⟨a,xs,rfl,t,rl⟩:=zDt ha r1 e1
   exact zM2 pins s σ H _ v vl vu lo hi sl Q I rx hs pl pu ⟨a,xs,rfl,t,fun p n=>k _ _ (ha.push n) (.push n) ⟨p,_,rfl,⟨zA5,ha.out n⟩,RepL.grow (.push n) _ _ (zEr rl lo hi)⟩⟩
  ·cases e
end
end L2
namespace L2
open PySem PySem.Spec PyProof.Rows
open DS (D Store Exn Rs SR)
section
variable {X:Cx}{K:PySem.W.Frag}{E:XE}{J:Js}{S:Store}{H:Hp}{d d1 d2:D}{v:V}
noncomputable def pOf (K:PySem.W.Frag) (g:Store->D->D->D->Option Store):TSet:=fun o i v H Q=>∃J S d1 d2 d3 S',AbS K J S H/\Rep K J H d1 o/\Rep K J H d2 i/\Rep K J H d3 v/\g S d1 d2 d3=some S'/\∀H',AbS K J S' H'->Grow J H J H'->Q H'
open Classical in
theorem zPd {κ:Type}[DecidableEq κ] {f:κ->D}(fi:∀a b,f a=f b->a=b) {k:κ}{dv:D}{w:V}{kvs:List (κ × V)}{vs:List D}(r:RepL K J H vs (kvs.map (·.2))) (rv:Rep K J H dv w):
  (DS.put2 (kvs.map fun p=>f p.1) vs (f k) dv).1=(putK kvs k w).map (fun p=>f p.1)/\RepL K J H (DS.put2 (kvs.map fun p=>f p.1) vs (f k) dv).2 ((putK kvs k w).map (·.2)):=by
 have any_iff:(kvs.any fun kv=>decide (kv.1=k))=true <-> f k∈kvs.map fun p=>f p.1:=by
  simp only[List.any_eq_true,decide_eq_true_eq,ve]
  constructor
  ·rintro⟨p,hp,e⟩;exact⟨p,hp,by rw[e]⟩
  ·rintro⟨p,hp,e⟩;exact⟨p,hp,fi _ _ e⟩
 unfold DS.put2 putK
 by_cases hm:f k∈kvs.map fun p=>f p.1
 ·rw[xb hm,xb (any_iff.mpr hm)]
  refine⟨?_,?_⟩
  ·rw[List.map_map]
   refine List.map_congr_left fun p _=>?_
   show f p.1=f (if p.1=k then(p.1,w)else p).1
   split <;> rfl
  ·clear hm any_iff
   induction kvs generalizing vs with
   | nil=>cases vs <;> rfl
   | cons p kvs ih=>
    cases vs with
    | nil=>cases r
    | cons dw vs=>
     obtain⟨x,t,e,h,rl⟩:=r
     have e:=List.cons.inj (e)
     obtain⟨rfl,rfl⟩:=e
     refine⟨(if p.1=k then(p.1,w)else p).2,_,rfl,?_,ih rl⟩
     by_cases z:p.1=k
     ·rw[xb z,xb (show f p.1=f k by rw[z])];exact rv
     ·rw[xc z,xc fun q=>z (fi _ _ q)];exact h
 ·rw[xc hm,xc (fun z=>hm (any_iff.mp z))]
  refine⟨by simp,?_⟩
  rw[List.map_append]
  exact r.snoc rv
theorem zOb {o i e:Expr}{mo mi m:DS.EM}{sp2 pos:Pos}{g:Store->D->D->D->Option Store}(hs:PSet X (pOf K g)) (ho:DE X K E o mo) (hi:DE X K E i mi) (he:DE X K E e m) (h:nsl i=true:=by rfl) (h2:nco e=true:=by rfl):DS1 X K E (.Assign [.Subscript o i sp2] e pos) (DS.sPut g mo mi m):=
 ⟨(qasgs' he.h (zMp ho.h hi.h hs h) h2).imp fun D σ H ⟨env,S,J,ha,he,q⟩=>⟨env,S,J,ha,he,q.then.imp fun dv S1 J1 H1 _ a1 g1 q1 v rv=>⟨env,S1,J1,a1,he.grow g1,q1.then.imp fun dx S2 J2 H2 _ a2 g2 q2 x rx=>
  ⟨env,S2,J2,a2,he.grow (g1.trans g2),q2.then.imp fun di S3 J3 H3 _ a3 g3 q3 y ry=>by
   cases e1:g S3 dx di dv with
   | none=>rw[e1]at q3;exact False.elim q3
   | some S4=>
    rw[e1]at q3
    exact⟨J3,S3,dx,di,dv,S4,a3,Rep.grow g3 _ _ rx,ry,Rep.grow (g2.trans g3) _ _ rv,e1,fun H' h1 h2=>q3 J3 H' σ h1 h2 (he.grow (g1.trans (g2.trans (g3.trans h2))))⟩⟩⟩⟩⟩
theorem zCr {ds:List D}{xs:List V}{d:D}(r:RepL K J H [d] xs):∃x,xs=[x]/\Rep K J H d x:=by
 obtain⟨x,t,rfl,h,rfl⟩:=r
 exact⟨x,rfl,h⟩
theorem zRd {pins:List (Addr × Obj)}{σ:St}{s:Shared}{a:Addr}{kvs:List (List Key × V)}{Q:Value->Shared->Prop}{A:Around}{E:Value->Shared->Prop}(I:Inv X pins σ H s) (e:Rd H a (.dT kvs)) (h:∀t s',Inv X pins σ H s'->Q (.int kvs.length t) s'):wpAny (model X.prog X.w) A (call (.builtin "len") [.ref a]) Q E s:=by
 obtain⟨z,hd,xs,rel,dd⟩:=zO9 I.hok e
 have hT:=dd.typeIs
 obtain⟨o,es,ep,ho,hx,hdat,hes,hall,hn⟩:=dd
 have hsz:es.size=kvs.length:=by rw[<- vN,hes,xE,<- Paired.length rel]
 rw[sizeLine_eq]at z
 have mt:MeetsIn X.prog X.w (Builtin.«dict.__len__» ⟨[.ref a],[]⟩) (fun _ R s'=>s'=s/\R (.ok (.ret (.int kvs.length s'.toks))) { s' with toks:=s'.toks+1 }):=.of_wp fun A R s' hq20=>by
  obtain⟨e,h⟩:=hq20
  subst e
  show wpAny _ _ (dictSize a >>= _) _ _ s'
  unfold dictSize
  refine xa (xa (wpAny_dictEntries ho hdat (xf ?_)))
  show wpAny _ _ (Builtin.Dict.pendingCount a >>= _) _ _ s'
  refine xa (wpAny_pendingCount_other hd ?_)
  refine wpAny_ret_mkInt ?_
  rw[Nat.add_zero,hsz];exact h
 refine Calls.call_function_entry kind_len plain_len entry_len (args_len1 _) ?_
 unfold Builtin.«len»
 refine xa (xf ?_)
 refine xa (wpAny_callSpecial?_slot hT PySem.F.slot_dict_len (call_meetsIn PySem.F.slot_dict_len hT PySem.F.entry_dict_len (PySem.F.args_dict_len_1 _) mt ⟨rfl,?_⟩))
 show wpAny _ _ _ _ _ { s with toks:=s.toks+1 }
 refine xa (xx (xf ?_))
 refine xa (wpAny_letGo ?_)
 show wpAny _ _ (if((kvs.length:Nat):Int)<0 then _ else _) _ _ _
 rw[xc (by nofun)]
 show wpAny _ _ (if((kvs.length:Nat):Int) >= 2 ^ 63 then _ else _) _ _ _
 rw[xc (by nofun)]
 exact xa (wpAny_mkInt (xf ⟨_,rfl,h _ _ (I.tok _)⟩))
theorem zGi (hK:X.K=K:=by rfl):zBl X (.builtin "len") (cOf K DS.lenB):=by
 subst hK
 intro pins s σ H xs us Q I r hq21
 obtain⟨J,S,ds,d,ha,rl,e,k⟩:=hq21
 unfold DS.lenB at e
 split at e
 ·rename_i d0
  obtain⟨x,rfl,rx⟩:=zCr (ds:=[]) rl
  have seq:∀l,DS.items S d0=some l->d=.int l.length->wpAny (model X.prog X.w) X.A (call (.builtin "len") us) (EP X pins σ Q) X.xe s:=fun l e1 e2=>by
   subst e2
   obtain⟨a,ys,rfl,hq,q⟩:=zFi ha rx e1
   exact zE4 pins s σ H _ us Q I r ⟨a,ys,rfl,hq,k _ H ha .refl (by rw[q.length];rfl)⟩
  split at e
  ·rename_i l e1;cases e;exact seq l (zB8 (.inl e1)) rfl
  ·rename_i l e1;cases e;exact seq l (zB8 (.inr e1)) rfl
  ·rename_i t ks vs e1
   cases e
   obtain⟨a,o,ys,rfl,he,q,_⟩:=zLq ha rx e1
   obtain⟨u,rfl,ru⟩:=vals1 r
   cases ru
   rcases q with⟨rfl,kvs,rfl,rfl,rfl⟩|⟨rfl,kvs,rfl,rfl,rfl⟩
   ·exact zSo I he fun t s' I'=>⟨.int kvs.length,H,I',⟨t,rfl⟩,k _ H ha .refl (by rw[xE];rfl)⟩
   ·exact zRd I he fun t s' I'=>⟨.int kvs.length,H,I',⟨t,rfl⟩,k _ H ha .refl (by rw[xE];rfl)⟩
  ·rename_i z e1
   split at e
   ·rename_i hz
    cases e
    obtain rfl:=zGx ha rx e1
    exact zE3 pins s σ H _ us Q I r ⟨z,rfl,hz,k _ H ha .refl rfl⟩
   ·cases e
  ·cases e
 ·cases e
theorem zFt:∀{l:List D}{xs:List V}{bs:List Bool},RepL K J H l xs->DS.bools l=some bs->xs=bs.map V.bl
 | [],_,_,r,e=>by cases e;exact r
 | d::l,_,bs,⟨x,t,e0,h,rl⟩,e=>by
  subst e0
  cases d with
  | bl b=>
   unfold DS.bools at e
   cases e1:DS.bools l with
   | none=>rw[e1]at e;cases e
   | some cs=>rw[e1]at e;cases e;rw[zFt rl e1,show x=.bl b from h];rfl
  | _=>cases e
theorem zGk (hc:X.calm=true) (hK:X.K=K:=by rfl):zBl X (.builtin "all") (cOf K DS.allB):=by
 subst hK
 intro pins s σ H xs us Q I r hq22
 obtain⟨J,S,ds,d,ha,rl,e,k⟩:=hq22
 unfold DS.allB at e
 split at e
 ·rename_i d0
  obtain⟨x,rfl,rx⟩:=zCr (ds:=[]) rl
  cases e1:DS.litems S d0 with
  | none=>rw[e1]at e;cases e
  | some l=>
   rw[e1]at e
   cases e2:DS.bools l with
   | none=>simp[e2]at e
   | some bs=>
    simp only[Option.bind_some,e2,vK,Option.some.injEq]at e
    subst e
    obtain⟨a,ys,rfl,hq,q⟩:=zBh ha rx e1
    obtain rfl:=zFt q e2
    exact zIw hc pins s σ H _ us Q I r ⟨a,bs,rfl,.inl hq,k _ H ha .refl rfl⟩
 ·cases e
theorem zLv {d1 d2:D}{xs:List V}(r:RepL K J H [d1,d2] xs):∃x y,xs=[x,y]/\Rep K J H d1 x/\Rep K J H d2 y:=by
 obtain⟨x,t,rfl,h,y,t',rfl,h',rfl⟩:=r
 exact⟨x,y,rfl,h,h'⟩
theorem zGh (hc:X.calm=true):zBl X (.builtin "max") (cOf K DS.max2B):=by
 intro pins s σ H xs us Q I r hq23
 obtain⟨J,S,ds,d,ha,rl,e,k⟩:=hq23
 unfold DS.max2B at e
 split at e
 ·obtain⟨x,y,rfl,rx,ry⟩:=zLv rl
  obtain rfl:=rx;obtain rfl:=ry
  cases e
  exact zIv hc pins s σ H _ us Q I r ⟨_,_,rfl,k _ H ha .refl (congrArg V.int (by congr))⟩
 ·cases e
theorem zG2:MtR X "list.append" (mOf K DS.zAu):=by
 intro pins s σ H x xs v us Q I rx rs hq24
 obtain⟨J,S,d1,ds,d,S',ha,r1,rl,e,k⟩:=hq24
 unfold DS.zAu at e
 split at e
 ·rename_i n dv
  obtain⟨a,ea,rfl⟩:=r1
  obtain⟨c,ec,ob,eo,rc⟩:=ha.at ea
  obtain⟨y,rfl,ry⟩:=zCr (ds:=[]) rl
  split at e
  ·rename_i l es
   rw[ec]at es;cases es
   obtain⟨ys,rfl,rl⟩:=rc
   split at e
   ·rename_i hz
    cases e
    exact zHm pins s σ H _ _ v us Q I rx rs ⟨a,ys,y,rfl,rfl,eo,by rw[<- rl.length];exact hz,k _ _ (ha.write ea ⟨_,rfl,rl.snoc ry⟩) (.write ea) rfl⟩
   ·cases e
  ·cases e
 ·cases e
theorem zNf:MtR X "list.pop" (mOf K DS.popM):=by
 intro pins s σ H x xs v us Q I rx rs hq25
 obtain⟨J,S,d1,ds,d,S',ha,r1,rl,e,k⟩:=hq25
 unfold DS.popM at e
 split at e
 ·rename_i n
  obtain⟨a,ea,rfl⟩:=r1
  obtain⟨c,ec,ob,eo,rc⟩:=ha.at ea
  obtain rfl:=rl
  split at e
  ·rename_i l es
   rw[ec]at es;cases es
   obtain⟨ys,rfl,rl⟩:=rc
   cases e1:l[l.length-1]? with
   | none=>rw[e1]at e;cases e
   | some w=>
    rw[e1]at e
    simp only[vK,Option.some.injEq,Prod.mk.injEq]at e
    obtain⟨rfl,rfl⟩:=e
    obtain⟨y,ey,ry⟩:=rl.get e1
    have g:Grow J H J (upd H a (.lst ys.dropLast)):=.write ea
    exact zQ5 pins s σ H _ _ v us Q I rx rs ⟨a,ys,y,rfl,rfl,eo,by rw[<- rl.length];exact ey,k _ _ (ha.write ea ⟨_,rfl,rl.dropLast⟩) g (Rep.grow g _ _ ry)⟩
  ·cases e
 ·cases e
end
end L2
namespace L2
open PySem PySem.Spec PyProof.Rows
open DS (D Store Exn Rs SR)
section
variable {X:Cx}{K:PySem.W.Frag}{E:XE}{J:Js}{S:Store}{H:Hp}{d d1 d2:D}{v:V}
theorem zHs {tg:Expr}{pins:List (Addr × Obj)}{s1:Shared}{σ:St}{H1:Hp}{R:It->Hp->Prop}{a:Addr}{xs:List V}(I1:Inv X pins σ H1 s1) (hq:SqL X.K H1 a xs) (q:R (Itl X.K a) H1):wpAny (model X.prog X.w) X.A (pyIter (.ref a)) (PIE X pins σ tg R) X.xe s1:=by
 obtain⟨its,rv,p,hz⟩:=I1.list hq
 refine wpAny_pyIter_list p.isList ?_
 refine⟨s1.heap.objs.size,[s1.heap.objs.size],_,_,H1,rfl,I1.kept fun b o e=>xl _ e,zGt a _,⟨_,xv _ rfl,rfl,rfl⟩,fun b hb=>?_,q⟩
 have e:b=s1.heap.objs.size:=by simpa using hb
 subst e
 exact I1.fpOk (xh _) (I1.hok.fresh (xh _))
theorem zKc {tg:Expr}{pins:List (Addr × Obj)}{s1:Shared}{σ:St}{H1:Hp}{R:It->Hp->Prop}{a:Addr}{xs:List V}(I1:Inv X pins σ H1 s1) (hq:SqT X.K H1 a xs) (q:R (Itt X.K a) H1):wpAny (model X.prog X.w) X.A (pyIter (.ref a)) (PIE X pins σ tg R) X.xe s1:=by
 obtain⟨its,rv,p,hz⟩:=I1.tuple hq
 refine wpAny_pyIter_tuple (p) ?_
 refine⟨s1.heap.objs.size,[s1.heap.objs.size],_,_,H1,rfl,I1.kept fun b o e=>xl _ e,zFw a _,⟨_,xv _ rfl,rfl,rfl⟩,fun b hb=>?_,q⟩
 have e:b=s1.heap.objs.size:=by simpa using hb
 subst e
 exact I1.fpOk (xh _) (I1.hok.fresh (xh _))
theorem zKd {tg:Expr}{pins:List (Addr × Obj)}{s1:Shared}{σ:St}{H1:Hp}{R:It->Hp->Prop}{z:Str}{t:Tok}(I1:Inv X pins σ H1 s1) (ha:z.cps.all (·<128)=true) (q:R (Its z) H1):wpAny (model X.prog X.w) X.A (pyIter (.str z t)) (PIE X pins σ tg R) X.xe s1:=by
 refine wpAny_pyIter_ascii ha ?_
 refine⟨s1.heap.objs.size,[s1.heap.objs.size],_,Its z,H1,rfl,I1.kept fun b o e=>xl _ e,zJ4 s1.heap.objs.size z t,⟨xW _,_,xv _ rfl,rfl,rfl⟩,fun b hb=>?_,q⟩
 have e:b=s1.heap.objs.size:=by simpa using hb
 subst e
 exact I1.fpOk (xh _) (I1.hok.fresh (xh _))
theorem stays_list {l:List D}(ha:AbS K J S H) (r:Rep K J H d v) (e:DS.look S d=some (.lst l)):∃a xs,v=.ref a/\SqL K H a xs/\∀J' H' S',Grow J H J' H'->AbS K J' S' H'->DS.gOk S' (DS.gdOf S d)->∃ys,SqL K H' a ys/\RepL K J' H' l ys:=by
 cases d with
 | lst l=>cases e;obtain⟨a,xs,rfl,t,rl⟩:=r;exact⟨a,xs,rfl,t.sq,fun J' H' S' g _ _=>⟨xs,(t.grow g).sq,RepL.grow g _ _ rl⟩⟩
 | klst l=>cases e;obtain⟨a,xs,rfl,t,rl⟩:=r;exact⟨a,xs,rfl,t.sq,fun J' H' S' g _ _=>⟨xs,(t.grow g).sq,RepL.grow g _ _ rl⟩⟩
 | ref n=>
  obtain⟨a,ea,rfl⟩:=r
  obtain⟨c,ec,o,eo,rc⟩:=ha.at ea
  have e:S[n]?=_:=e
  rw[ec]at e;cases e
  obtain⟨xs,rfl,rl⟩:=rc
  refine⟨a,xs,rfl,.inl (.inl eo),fun J' H' S' g ha' gd=>?_⟩
  have e':=gd (n,.lst l) (by simp[DS.gdOf,ec])
  obtain⟨o',eo',rc'⟩:=ha'.ob n a _ (g.pre n a ea) e'
  obtain⟨ys,rfl,rl'⟩:=rc'
  exact⟨ys,.inl (.inl eo'),rl'⟩
 | _=>cases e
theorem stays_tup {l:List D}(ha:AbS K J S H) (r:Rep K J H d v) (e:DS.look S d=some (.tup l)):∃a xs,v=.ref a/\SqT K H a xs/\∀J' H',Grow J H J' H'->SqT K H' a xs/\RepL K J' H' l xs:=by
 cases d with
 | tup l=>cases e;obtain⟨a,xs,rfl,t,rl⟩:=r;exact⟨a,xs,rfl,t.sq,fun J' H' g=>⟨(t.grow g).sq,RepL.grow g _ _ rl⟩⟩
 | ktup l=>cases e;obtain⟨a,xs,rfl,t,rl⟩:=r;exact⟨a,xs,rfl,t.sq,fun J' H' g=>⟨t.sq,RepL.grow g _ _ rl⟩⟩
 | ref n=>
  obtain⟨a,ea,rfl⟩:=r
  obtain⟨c,ec,o,eo,rc⟩:=ha.at ea
  have e:S[n]?=_:=e
  rw[ec]at e;cases e
  exact False.elim rc
 | _=>cases e
theorem zNp {a:Addr}{l:List D}{gd:List (Nat × D)}(h:∀J' H' S',Grow J H J' H'->AbS K J' S' H'->DS.gOk S' gd->∃ys,SqL K H' a ys/\RepL K J' H' l ys):ItOk K J H ⟨l,gd⟩ (Itl K a) where
 go:=fun i H' J' S' ha g gd hi=>by
  obtain⟨ys,q,rl⟩:=h J' H' S' g ha gd
  exact⟨ys,ys[i]'(by rw[<- rl.length];exact hi),q,xp _⟩
 yld:=fun i H' J' S' x H'' ha g gd y d ed=>by
  obtain⟨rfl,y⟩:=y
  obtain⟨ys,q,rl⟩:=h J' H'' S' g ha gd
  obtain⟨x',ex,rx⟩:=rl.get ed
  rw[y ys q]at ex;cases ex
  exact⟨ha,.refl,rx⟩
 stop:=fun i H' J' S' ha g gd hi=>by
  obtain⟨ys,q,rl⟩:=h J' H' S' g ha gd
  exact⟨ys,q,by rw[<- rl.length];exact hi⟩
theorem zQf {a:Addr}{xs:List V}{l:List D}{gd:List (Nat × D)}(h:∀J' H',Grow J H J' H'->SqT K H' a xs/\RepL K J' H' l xs):ItOk K J H ⟨l,gd⟩ (Itt K a) where
 go:=fun i H' J' S' ha g gd hi=>by
  obtain⟨q,rl⟩:=h J' H' g
  exact⟨xs,xs[i]'(by rw[<- rl.length];exact hi),q,xp _⟩
 yld:=fun i H' J' S' x H'' ha g gd y d ed=>by
  obtain⟨rfl,y⟩:=y
  obtain⟨q,rl⟩:=h J' H'' g
  obtain⟨x',ex,rx⟩:=rl.get ed
  rw[y xs q]at ex;cases ex
  exact⟨ha,.refl,rx⟩
 stop:=fun i H' J' S' ha g gd hi=>by
  obtain⟨q,rl⟩:=h J' H' g
  exact⟨xs,q,by rw[<- rl.length];exact hi⟩
theorem zQg {x:Str}:ItOk K J H ⟨DS.chars x,[]⟩ (Its x) where
 go:=fun i H' J' S' ha g gd hi=>by
  have:(DS.chars x).length=x.cps.size:=by simp[DS.chars]
  show i<x.cps.size
  rw[<- this];exact hi
 yld:=fun i H' J' S' y H'' ha g gd yl d ed=>by
  obtain⟨rfl,c,ec,rfl⟩:=yl
  have e:(DS.chars x)[i]?=some (D.str ⟨#[c]⟩):=by
   unfold DS.chars
   rw[xV,Array.getElem?_toList,ec];rfl
  rw[e]at ed;cases ed
  exact⟨ha,.refl,rfl⟩
 stop:=fun i H' J' S' ha g gd hi=>by
  have:(DS.chars x).length=x.cps.size:=by simp[DS.chars]
  show x.cps.size<=i
  rw[<- this];exact hi
theorem zQy {tg e:Expr}{m:DS.EM}(he:DE X K E e m) (hK:X.K=K:=by rfl):DI X K E tg e (DS.iVal m):=by
 subst hK
 refine⟨⟨fun pins s σ H R I hq1=>?_⟩⟩
 obtain⟨env,S,J,ha,hE,q⟩:=hq1
 refine thn (he.h.h pins s σ H (fun x H1=>∃J1 S1 d w,AbS X.K J1 S1 H1/\Rep X.K J1 H1 d x/\DS.zC4 S1 d=some w/\∀It,ItOk X.K J1 H1 w It->R It H1) I ⟨env,S,J,ha,hE,q.bind.imp fun d S1 J1 H1 _ a1 g1 q1 x rx=>?_⟩) fun v s1 hq1=>?_
 ·obtain⟨w,ew,k⟩:=q1.lift
  exact⟨J1,S1,d,w,a1,rx,ew,k J1 H1 a1 .refl⟩
 ·obtain⟨x,H1,I1,r1,J1,S1,d,w,a1,rx,ew,k⟩:=hq1
  unfold DS.zC4 at ew
  split at ew
  ·rename_i l el
   cases ew
   obtain⟨a,xs,rfl,hq,st⟩:=stays_tup a1 rx el
   cases r1
   exact zKc I1 hq (k _ (zQf st))
  ·rename_i l el
   cases ew
   obtain⟨a,xs,rfl,hq,st⟩:=stays_list a1 rx el
   cases r1
   exact zHs I1 hq (k _ (zNp st))
  ·rename_i z ez
   split at ew
   ·rename_i hz
    cases ew
    obtain rfl:=zGx a1 rx ez
    obtain⟨t,rfl⟩:=r1
    exact zKd I1 hz (k _ zQg)
   ·cases ew
  ·cases ew
theorem zKe {lo:Int}{n:Nat}:ItOk K J H ⟨(List.range n).map fun(k:Nat)=>D.int (lo+k),[]⟩ (Itr lo n) where
 go:=fun i H' J' S' ha g gd hi=>by show i<n;simpa using hi
 yld:=fun i H' J' S' y H'' ha g gd yl d ed=>by
  obtain⟨rfl,rfl⟩:=yl
  rw[xV]at ed
  by_cases hi:i<n
  ·rw[List.getElem?_range hi]at ed
   cases ed
   exact⟨ha,.refl,rfl⟩
  ·rw[x9 (by simpa using hi)]at ed
   cases ed
 stop:=fun i H' J' S' ha g gd hi=>by show n<=i;simpa using hi
theorem fits_of {i:Int}(h:DS.fits62 i=true):-(2 ^ 62)<=i/\i<2 ^ 62:=of_decide_eq_true h
theorem zIe {tg a:Expr}{p pos:Pos}{am:DS.AM}(hg:Gl X "range") (hm:X.mg "range"=none) (ha:DA X K E [a] am) (h:nst a=true:=by rfl):DI X K E tg (.Call (.Name "range" p) [a] [] pos) (DS.zB3 am):=
 ⟨(qrange1' hg hm ha.h h).imp fun σ H R ⟨env,S,J,h,hE,q⟩=>⟨env,S,J,h,hE,q.bind.imp fun ds S1 J1 H1 e1 a1 g1 q1 xs rx=>by
  obtain⟨w,ew,k⟩:=q1.lift
  have hl:=ha.len _ _ _ _ e1
  match ds,hl with
  | [d],_=>
   obtain⟨x,rfl,r⟩:=zCr (ds:=[]) rx
   cases d with
   | int j=>
    unfold DS.zDb at ew
    simp only at ew
    by_cases hf:DS.fits62 j=true
    ·rw[xb hf]at ew;cases ew
     obtain rfl:=r
     refine⟨j,rfl,(fits_of hf).1,(fits_of hf).2,k J1 H1 a1 .refl _ ?_⟩
     have e:DS.zCq 0 j=(List.range j.toNat).map fun(k:Nat)=>D.int (0+k):=by unfold DS.zCq;rw[Int.sub_zero]
     rw[e]
     exact zKe
    ·rw[xc hf]at ew;cases ew
   | _=>cases ew⟩⟩
theorem zGb {e:Expr}{m:DS.EM}{p p2 pos pos2:Pos}(hc:X.calm=true) (he:DE X K E e m) (hgl:Gl X "list") (hml:X.mg "list"=none) (hgr:Gl X "reversed") (hmr:X.mg "reversed"=none) (h:nst e=true:=by rfl) (hK:X.K=K:=by rfl):
  DF X K E (.Call (.Name "list" p) [.Call (.Name "reversed" p2) [e] [] pos2] [] pos) (DS.eUn DS.revL m):=by
 subst hK
 refine⟨(qlistrev' hc he.h hgl hml hgr hmr h).imp fun σ H Q ⟨env,S,J,ha,hE,q⟩=>⟨env,S,J,ha,hE,q.bind.imp fun d S1 J1 H1 _ a1 g1 q1 x rx=>?_⟩⟩
 obtain⟨c,ec,k⟩:=q1.lift
 unfold DS.revL at ec
 split at ec
 ·rename_i l el
  cases ec
  obtain⟨a,xs,rfl,hq,rl⟩:=zDt a1 rx el
  exact⟨a,xs,rfl,hq,fun p n=>k J1 H1 a1 .refl p _ n ⟨_,rfl,rl.reverse⟩⟩
 ·cases ec
structure DPs (X:Cx) (K:PySem.W.Frag) (E:XE) (pos:Pos) (keys:List (Option Expr)) (values:List Expr) (ks:List Key) (am:DS.AM):Prop where
 ex:∃trs,SPs X pos keys values trs/\∀σ H Q,(∃env S J,AbS K J S H/\RepE K J H env σ/\Post K E J H (am env S) (fun vs _ J' H'=>∀xs,RepL K J' H' vs xs->Q ((ks.map kV).zip xs) H'))->zF3 trs σ H Q
 len:∀env S ds S',am env S=.ok ds S'->ds.length=ks.length
theorem zOe {pos:Pos}:DPs X K E pos [] [] [] DS.aNil:=⟨⟨[],zJm,fun σ H Q hz8=>by obtain⟨env,S,J,ha,he,q⟩:=hz8;exact q J H ha .refl [] rfl⟩,fun _ _ _ _ e=>by cases e;rfl⟩
theorem zKs {pos kp:Pos}{x:Str}{j:_}{v:Expr}{ks:List (Option Expr)}{vs:List Expr}{kl:List Key}{m:DS.EM}{am:DS.AM}(hv:DE X K E v m) (hr:DPs X K E pos ks vs kl am):DPs X K E pos (some (.Constant (.str x) j kp)::ks) (v::vs) (.inr x::kl) (DS.zA0 m am):=by
 obtain⟨trs,hp,hq⟩:=hr.ex
 refine⟨⟨_,zHb (zHf) hv.h hp,fun σ H Q ⟨env,S,J,ha,he,q⟩=>⟨env,S,J,ha,he,q.bind.imp fun d S1 J1 H1 _ a1 g1 q1 y ry=>hq σ H1 _ ⟨env,S1,J1,a1,he.grow g1,q1.bind.imp fun ds S2 J2 H2 _ a2 g2 q2 xs rx=>
  q2 J2 H2 a2 .refl (y::xs) ⟨y,xs,rfl,Rep.grow g2 _ _ ry,rx⟩⟩⟩⟩,fun env S ds S' e1=>?_⟩
 unfold DS.zA0 at e1
 cases e2:m env S with
 | ok d S1=>
  rw[e2,Rs.bind_ok]at e1
  cases e3:am env S1 with
  | ok dr S2=>rw[e3,Rs.bind_ok]at e1;cases e1;simp[hr.len _ _ _ _ e3]
  | _=>rw[e3]at e1;cases e1
 | _=>rw[e2]at e1;cases e1
theorem zCt:∀{kvs acc:List (Key × V)},((acc++kvs).map (·.1)).Nodup->zBu acc kvs=acc++kvs
 | [],acc,_=>by simp[zBu]
 | p::kvs,acc,h=>by
  have hn:(acc.any fun kv=>decide (kv.1=p.1))=false:=by
   rw[vB]
   intro z
   obtain⟨q,hq,e⟩:=List.any_eq_true.mp z
   rw[List.map_append,xt]at h
   exact(List.nodup_append.mp h).2.2 q.1 (ve.mpr ⟨q,hq,rfl⟩) p.1 (xP ..) (of_decide_eq_true e)
  have e:putK acc p.1 p.2=acc++[p]:=by unfold putK;rw[hn];rfl
  show zBu (putK acc p.1 p.2) kvs=_
  rw[e,zCt (by simpa using h)]
  simp
theorem zOn {pos:Pos}{keys:List (Option Expr)}{values:List Expr}{kl:List Key}{ks:List D}{am:DS.AM}(h:DPs X K E pos keys values kl am) (hk:ks=kl.map keyD) (nd:kl.Nodup) (hall:keys.all (·.isSome)=true:=by rfl) (hl:keys.length=values.length:=by rfl) (h0:keys≠[]:=by intro z;cases z) (h15:keys.length<=15:=by decide) (hz:kl.length<=15:=by decide):
  DE X K E (.Dict keys values pos) (DS.zKo ks am):=by
 subst hk
 obtain⟨trs,hp,hq⟩:=h.ex
 refine⟨(zJy hp hall hl h0 h15).imp fun σ H Q ⟨env,S,J,ha,he,q⟩ p n=>hq σ _ _ ⟨env,S++[.dct false [] []],J++[p],ha.name (d:=.dct false [] []) n ⟨[],.inl ⟨rfl,[],rfl,rfl,rfl⟩,rfl⟩,he.grow (.name n),(Post.grow (Grow.name n) q).bind.imp fun vs S1 J1 H1 e1 a1 g1 q1 xs rx=>?_⟩⟩
 have ep:(J++[p])[S.length]?=some p:=by rw[<- ha.len,xU (xh _)];simp
 have ep1:=g1.pre _ _ ep
 have hlen:=h.len _ _ _ _ e1
 by_cases hc:S1[S.length]?=some (.dct false [] [])
 ·rw[xb hc]at q1
  obtain⟨o,eo,rc⟩:=a1.ob _ _ _ ep1 hc
  obtain⟨zs,t,_⟩:=rc
  have ho:o=.dK []:=by
   rcases t with⟨_,kvs,rfl,e,_⟩|⟨z,_⟩
   ·cases kvs with
    | nil=>rfl
    | cons a r=>cases e
   ·cases z
  subst ho
  have lx:kl.length=xs.length:=by rw[<- hlen];exact rx.length
  have m1:(kl.zip xs).map (·.1)=kl:=by rw[List.map_fst_zip (by nofun)]
  have m2:(kl.zip xs).map (·.2)=xs:=by rw[List.map_snd_zip (by nofun)]
  refine⟨eo,kl.zip xs,?_,?_,?_⟩
  ·rw[List.zip_map_left]
   rfl
  ·rw[List.length_zip];lia
  ·rw[zCt (by rw[vC,m1];exact nd),vC]
   refine q1 J1 _ (a1.write ep1 ⟨xs,.inl ⟨rfl,_,rfl,?_,m2.symm⟩,rx⟩) (.write ep1) (.ref p) ⟨p,ep1,rfl⟩
   rw[show kl.map keyD=((kl.zip xs).map (·.1)).map keyD by rw[m1],List.map_map]
   rfl
 ·rw[xc hc]at q1;exact False.elim q1
end
end L2
namespace L2
theorem len0 {α:Type}:∀{l:List α},l.length=0->l=[]
 | [],_=>rfl
 | _::_,h=>nomatch h
theorem lenS {α:Type}{n:Nat}{l:List α}(h:l.length=n+1):∃a r,l=a::r/\r.length=n:=by
 cases l with
 | nil=>cases h
 | cons a r=>exact⟨a,r,rfl,Nat.succ.inj h⟩
theorem len1 {α:Type}{l:List α}(h:l.length=1):∃a,l=[a]:=by obtain⟨a,r,e,q⟩:=lenS h;exact⟨a,by rw[e,len0 q]⟩
theorem len2 {α:Type}{l:List α}(h:l.length=2):∃a b,l=[a,b]:=by obtain⟨a,r,e,q⟩:=lenS h;obtain⟨b,e2⟩:=len1 q;exact⟨a,b,by rw[e,e2]⟩
theorem len3 {α:Type}{l:List α}(h:l.length=3):∃a b c,l=[a,b,c]:=by obtain⟨a,r,e,q⟩:=lenS h;obtain⟨b,c,e2⟩:=len2 q;exact⟨a,b,c,by rw[e,e2]⟩
theorem len4 {α:Type}{l:List α}(h:l.length=4):∃a b c d,l=[a,b,c,d]:=by obtain⟨a,r,e,q⟩:=lenS h;obtain⟨b,c,d,e2⟩:=len3 q;exact⟨a,b,c,d,by rw[e,e2]⟩
theorem len5 {α:Type}{l:List α}(h:l.length=5):∃a b c d e,l=[a,b,c,d,e]:=by obtain⟨a,r,e1,q⟩:=lenS h;obtain⟨b,c,d,e,e2⟩:=len4 q;exact⟨a,b,c,d,e,by rw[e1,e2]⟩
end L2
namespace L2
open PySem PySem.Spec PyProof.Rows
open DS (D Store Exn Rs SR)
theorem zH0 {K:PySem.W.Frag}{F:DS.Fn}{H:Hp}{a:Addr}{ns:List Int}{XX:XK}(h:∃S,F [.klst (ns.map D.int)] []=.ok (.bl true) S) (hS:SqL K H a (ns.map V.int)):spOf K XE0 F [.ref a] H (fun v _=>v=.bl true) XX:=by
 obtain⟨S,e⟩:=h
 refine⟨[],[],[.klst (ns.map D.int)],⟨rfl,List.nodup_nil,fun i a d e _=>by simp at e⟩,⟨.ref a,[],rfl,⟨a,ns.map V.int,rfl,?_,.ints⟩,rfl⟩,?_⟩
 ·rcases hS with h|h
  ·exact .inl ⟨h,by simp⟩
  ·exact .inr h
 ·rw[e]
  exact fun J' H' _ _ v r=>r
end L2
namespace L2
open PySem PySem.Spec PyProof.Rows
open DS (D Store Exn Rs SR)
noncomputable def locB (o:Option NameKind):Bool:=o == some .local || o == some .cell
noncomputable def visB (o:Option NameKind):Bool:=locB o || o == some .free
theorem zFd {o:Option NameKind}(h:locB o=true):o=some .local\/o=some .cell:=by simpa[locB]using h
theorem zD1 {o:Option NameKind}(h:visB o=true):o=some .local\/o=some .cell\/o=some .free:=by simpa[visB,locB,or_assoc]using h
noncomputable def ndB:List Str->Bool
 | []=>true
 | x::r=>!(r.contains x) && ndB r
theorem zC9:∀{l:List Str},ndB l=true->l.Nodup
 | [],_=>List.nodup_nil
 | x::r,h=>by
  simp only[ndB,xg,x5,List.contains_eq_mem,decide_eq_false_iff_not]at h
  exact vq.mpr ⟨h.1,zC9 h.2⟩
noncomputable def varB (X:Cx) (i:Nat) (x:Str):Bool:=X.N[i]? == some x && (visB (X.env.scope.names.lookup x) && (!(x == ("__debug__":Str)) && !(x == ("__classdict__":Str))))
noncomputable def setB (X:Cx) (j:Nat) (x:Str):Bool:=ndB X.N && (X.N[j]? == some x && (locB (X.env.scope.names.lookup x) && (X.fn x || X.env.scope.names.lookup x == some .local)))
noncomputable def tgN:Expr->List Str
 | .Name x _=>[x]
 | .Tuple ts _ _=>ts.flatMap fun
  | .Name x _=>[x]
  | .Tuple us _ _=>us.flatMap fun
   | .Name x _=>[x]
   | _=>[]
  | _=>[]
 | _=>[]
noncomputable def freN (N:List Str) (ix:List Nat):List Str:=ix.map fun i=>N.getD i ""
noncomputable def cmpB (X:Cx) (tg iter:Expr) (n:Nat) (ix:List Nat) (scope:Scope):Bool:=X.calm && (nse iter && ((tgN tg).length == n && zIn X.env.scope X.N (tgN tg) (freN X.N ix) ix scope))
section
variable {X:Cx}{K:PySem.W.Frag}{E:XE}{e a b c:Expr}{es:List Expr}{p pos:Pos}{m ma mb mc:DS.EM}{mt mu:DS.TM}
theorem zQo {i:Nat}{x:Str}(h:varB X i x=true):DE X K E (.Name x pos) (DS.eVar i):=by
 simp only[varB,xg,x5]at h
 exact zR1 i (by simpa using h.1) (zD1 h.2.1) h.2.2.1 h.2.2.2
theorem zD9 {j:Nat}{x:Str}(h:setB X j x=true):X.N.Nodup/\X.N[j]?=some x/\Loc X.env.scope x/\(X.fn x=true\/X.env.scope.names.lookup x=some .local):=by
 simp only[setB,xg,Bool.or_eq_true]at h
 exact⟨zC9 h.1,by simpa using h.2.1,zFd h.2.2.1,by simpa using h.2.2.2⟩
theorem zQp {j:Nat}{x:Str}{pos':Pos}(h:(setB X j x && nco e)=true) (he:DE X K E e m):DS1 X K E (.Assign [.Name x pos'] e pos) (DS.sSet j m):=by
 rw[xg]at h
 have z:=zD9 h.1
 exact zOa z.1 z.2.1 z.2.2.1 he z.2.2.2 h.2
theorem zO5 {j:Nat}{x:Str}(h:setB X j x=true):DG X K (.Name x pos) (DS.gName j):=
 have z:=zD9 h
 zOk z.1 z.2.1 z.2.2.1 z.2.2.2
theorem zFp {tg iter:Expr}{n:Nat}{ix:List Nat}{scope:Scope}(h:cmpB X tg iter n ix scope=true):X.calm=true/\nse iter=true/\(tgN tg).length=n/\CompScope X (tgN tg) (freN X.N ix) ix scope:=by
 simp only[cmpB,xg]at h
 exact⟨h.1,h.2.1,by simpa using h.2.2.1,.mk' rfl rfl h.2.2.2⟩
section
variable {ix:List Nat}{n:Nat}{scope:Scope}{j:Nat}{x:Str}{cpos pos':Pos}{tg elt iter:Expr}{ifs:List Expr}{im:DS.IM}{g:DS.GM}
theorem zO7 (h:cmpB X tg iter n ix scope=true) (hi:DI X K E tg iter im)
  (hg:∀cl C s H fp,DG (zA6 X (tgN tg++freN X.N ix) scope cl C s H fp) K tg g) (ht:∀cl C s H fp,DIf (zA6 X (tgN tg++freN X.N ix) scope cl C s H fp) K E ifs mt) (he:∀cl C s H fp,DE (zA6 X (tgN tg++freN X.N ix) scope cl C s H fp) K E elt m):
  DF X K E (.ListComp elt [⟨tg,iter,ifs,0⟩] scope pos) (DS.zAn n ix im g mt m):=
 have z:=zFp h
 zOl z.1 z.2.2.2 hi hg ht he z.2.2.1 z.2.1
theorem zO4 (hsw:swapsWith (.ListComp elt [⟨tg,iter,ifs,0⟩] scope cpos) (some (.Name x pos')) pos.line X.env=pure true) (h1:setB X j x=true) (h:cmpB X tg iter n ix scope=true) (hi:DI X K E tg iter im)
  (hg:∀cl C s H fp,DG (zA6 X (tgN tg++freN X.N ix) scope cl C s H fp) K tg g) (ht:∀cl C s H fp,DIf (zA6 X (tgN tg++freN X.N ix) scope cl C s H fp) K E ifs mt) (he:∀cl C s H fp,DE (zA6 X (tgN tg++freN X.N ix) scope cl C s H fp) K E elt m):
  DS1 X K E (.Assign [.Name x pos'] (.ListComp elt [⟨tg,iter,ifs,0⟩] scope cpos) pos) (DS.sSet j (DS.zAn n ix im g mt m)):=
 have z:=zFp h
 have y:=zD9 h1
 zKp y.1 y.2.1 y.2.2.1 z.1 z.2.2.2 hi hg ht he hsw z.2.1 y.2.2.2 z.2.2.1
end
noncomputable def glB (X:Cx) (x:Str):Bool:=X.env.kindOf x == some .globalImplicit
theorem zDf {x:Str}(h:glB X x=true):Gl X x:=by simpa[glB,Gl]using h
noncomputable def zIx (X:Cx) (x:Str) (es:List Expr):Bool:=glB X x && (!(x == ("__debug__":Str)) && (!(x == ("__name__":Str)) && es.all nst))
theorem zCh {x:Str}(h:zIx X x es=true):Gl X x/\(x == ("__debug__":Str))=false/\x≠"__name__"/\es.all nst=true:=by
 simp only[zIx,xg,x5]at h
 exact⟨zDf h.1,h.2.1,by simpa using h.2.2.1,h.2.2.2⟩
theorem zO8 {x:Str}{k:Nat}{ps:List Str}{F:DS.Fn}{am:DS.AM}(C:Cal X.prog X.w X.K X.mg X.base x k ps (spOf K E F)) (hr:Room k X.A) (h:zIx X x (e::es)=true) (ha:DA X K E (e::es) am):DE X K E (.Call (.Name x p) (e::es) [] pos) (DS.zA8 F am):=
 have z:=zCh h
 zOo C hr z.1 ha z.2.1 z.2.2.2
theorem zSd {x:Str}{iq:String}{am:DS.AM}{g:Store->List D->Option D}(hc:zBl X (.builtin iq) (cOf K g)) (hv:bootBuiltins x=some (.builtin iq)) (hm:X.mg x=none) (h:zIx X x (e::es)=true) (ha:DA X K E (e::es) am):DE X K E (.Call (.Name x p) (e::es) [] pos) (DS.eCB g am):=
 have z:=zCh h
 zSm hc z.1 hm hv ha z.2.2.1 z.2.1 z.2.2.2
structure MtS (T:String) (x:Str) (iq:String):Prop where
 pa:PlainAttrs T
 sl:Slot T x iq
 ty:typeOf (.builtin iq)=pure (.type "method_descriptor")
 hT:T="str"\/T="list"\/T="dict"
theorem zJa:MtS "list" "append" "list.append":=⟨PySem.F.plainAttrs_list,PySem.F.slot_list_append,PySem.F.type_list_append,.inr (.inl rfl)⟩
theorem s_pop:MtS "list" "pop" "list.pop":=⟨PySem.F.plainAttrs_list,PySem.F.slot_list_pop,PySem.F.type_list_pop,.inr (.inl rfl)⟩
theorem zP4:MtS "str" "join" "str.join":=⟨PySem.F.plainAttrs_str,PySem.F.slot_str_join,PySem.F.type_str_join,.inl rfl⟩
noncomputable def mtB (o:Expr) (es:List Expr) (apos cpos:Pos):Bool:=nba o && (es.all nst && (decide (es.length+0+0<30) && (apos.endLine == cpos.line)))
theorem zQr {T iq:String}{x:Str}{o:Expr}{apos cpos:Pos}{g:Store->D->List D->Option (D × Store)}{mo:DS.EM}{am:DS.AM}(S:MtS T x iq) (hm:MtR X iq (mOf K g)) (h:mtB o (e::es) apos cpos=true) (hK:X.K=K) (ho:DE X K E o mo) (ha:DA X K E (e::es) am):
  DE X K E (.Call (.Attribute o x apos) (e::es) [] cpos) (DS.eMt T g mo am):=by
 simp only[mtB,xg]at h
 exact zSk S.pa S.sl S.ty hm S.hT ho ha h.1 h.2.1 h.2.2.1 h.2.2.2 hK
theorem zQq {T iq:String}{x:Str}{o:Expr}{apos cpos:Pos}{g:Store->D->List D->Option (D × Store)}{mo:DS.EM}(S:MtS T x iq) (hm:MtR X iq (mOf K g)) (h:mtB o [] apos cpos=true) (hK:X.K=K) (ho:DE X K E o mo):
  DE X K E (.Call (.Attribute o x apos) [] [] cpos) (DS.eMt T g mo DS.aNil):=by
 simp only[mtB,xg]at h
 exact zR6 S.pa S.sl S.ty hm S.hT ho h.1 h.2.2.2 hK
end
noncomputable def scB (N ps:List Str) (sc:Scope):Bool:=sc.kind == .function && (!sc.isCoroutine && (!sc.isGenerator && (ndB N && (N.take ps.length == ps && (ps.all (fun x=>locB (sc.names.lookup x)) && sc.names.all fun y=>y.2 != .free)))))
theorem zDa {N ps:List Str}{sc:Scope}(h:scB N ps sc=true):zBe N ps sc:=by
 simp only[scB,xg,x5,xI]at h
 obtain⟨h1,h2,h3,h4,h5,h6,h7⟩:=h
 exact⟨by simpa using h1,h2,h3,zC9 h4,by simpa using h5,fun x hx=>zFd (h6 x hx),fun y hy=>by simpa using h7 y hy⟩
noncomputable abbrev fO (x:Str) (tq:Stmt) (pm:Value) (cd:Addr):Obj:=⟨.type "function",none,.func (PySem.W.fnOf x x (zAo tq) (zAc tq) (zA4 tq) .none .none .none pm none (.ref cd) .none),#[]⟩
structure Gd (K:PySem.W.Frag) (mg:Str->Option Value):Prop where
 a:∀x v,PySem.W.nsIn K mainGlobals x=some (some v)->mg x=some v
 z:∀x,PySem.W.nsIn K mainGlobals x=some none->mg x=none
section
variable {P:Program}{w:World}{K:PySem.W.Frag}{mg:Str->Option Value}{base:Heap}
theorem zHz {f cd:Addr}{x:Str}{tq:Stmt}{pm:Value}(l:K.lookup f=some (fO x tq pm cd)) (c:PySem.W.codeIn K (.ref cd) x=true) (kp:PySem.W.keepIn K (.ref f)=true):Fun K x x tq f (PySem.W.fnOf x x (zAo tq) (zAc tq) (zA4 tq) .none .none .none pm none (.ref cd) .none):=zLh l c kp
theorem zGn (G:Gd K mg) (f cd:Addr) (tq:Stmt) (pm:Value) (N:List Str) {x:Str}{ps:List Str}{k:Nat}{b:DS.SM}
  (hb:∀(cdv:Value) (A:Around) (outer:List PySem.Env) (s:Shared) (H:Hp) (E:XK),Room k (A.deeper (envOfC x (zA4 tq) s.heap.objs.size f cdv))->DSs (cxOf CX0 P w K mg base N x (zA4 tq) f cdv A outer s H E).nox K XE0 (zAc tq) b)
  (l:K.lookup f=some (fO x tq pm cd)) (c:(PySem.W.codeIn K (.ref cd) x && (PySem.W.keepIn K (.ref f) && scB N ps (zA4 tq)))=true) (hm:PySem.W.nsIn K mainGlobals x=some (some (.ref f)))
  (bd:∀(kV doc pm:Value) (an:Option Addr) (cdv ct:Value) (us:List Value),us.length=ps.length->bindArgs (PySem.W.fnOf x x (zAo tq) (zAc tq) (zA4 tq) .none kV doc pm an cdv ct) ⟨us,[]⟩=pure (ps.zip us)):Cal P w K mg base x (k+1) ps (spOf K XE0 (DS.zAt ps.length N.length b)):=by
 rw[xg,xg]at c
 have F:=zHz l c.1 c.2.1
 exact⟨_,_,fn_d F (zDa c.2.2) rfl rfl hb,G.a _ _ hm,F.kp,F.binds bd⟩
theorem zSq (G:Gd K mg) (f cd:Addr) (tq:Stmt) (pm:Value) (N:List Str) {x:Str}{ps:List Str}{k:Nat}{b:DS.SM}
  (hb:∀(cdv:Value) (A:Around) (outer:List PySem.Env) (s:Shared) (H:Hp) (E:XK),Room k (A.deeper (envOfC x (zA4 tq) s.heap.objs.size f cdv))->DSs (cxOf CX0 P w K mg base N x (zA4 tq) f cdv A outer s H E).nox K XE0 (zAc tq) b)
  (l:K.lookup f=some (fO x tq pm cd)) (c:(PySem.W.codeIn K (.ref cd) x && (PySem.W.keepIn K (.ref f) && scB N ps (zA4 tq)))=true) (hm:PySem.W.nsIn K mainGlobals x=some (some (.ref f)))
  (bd:∀(kV doc pm:Value) (an:Option Addr) (cdv ct:Value) (us:List Value),us.length=ps.length->bindArgs (PySem.W.fnOf x x (zAo tq) (zAc tq) (zA4 tq) .none kV doc pm an cdv ct) ⟨us,[]⟩=pure (ps.zip us)):Cal P w K mg base x (k+1) ps (spOf K XE0 (DS.zCm ps.length N.length b)):=by
 rw[xg,xg]at c
 have F:=zHz l c.1 c.2.1
 exact⟨_,_,fn_r F (zDa c.2.2) rfl rfl hb,G.a _ _ hm,F.kp,F.binds bd⟩
end
end L2
namespace DS
noncomputable def eqI (_:Store) (x y:D):Option D:=match x,y with
 | .int a,.int b=>some (.bl (decide (a=b)))
 | _,_=>none
noncomputable def putN (S:Store) (o k v:D):Option Store:=match o with
 | .ref n=>match S[n]? with
  | some (.dct false ks vs)=>if zBw false k=true/\ks.length<most then some (S.set n (.dct false (put2 ks vs k v).1 (put2 ks vs k v).2))else none
  | _=>none
 | _=>none
theorem zNz {S:Store}{a b:Int}:eqI S (.int a) (.int b)=some (.bl (decide (a=b))):=rfl
end DS
namespace L2
open PySem PySem.Spec PyProof.Rows
open DS (D Store Exn Rs SR)
section
variable {X:Cx}{K:PySem.W.Frag}
theorem zRc {pins:List (Addr × Obj)}{σ:St}{H:Hp}{s:Shared}{a:Addr}{kvs:List (Key × V)}{k:Key}{v:V}{u r:Value}{A:Around}{E:Value->Shared->Prop}{Q:Unit->Shared->Prop}(I:Inv X pins σ H s) (e:H a=some (.dK kvs)) (l:kvs.length<sizeLine) (ry:RelV (kV k) u) (rv:RelV v r) (h:∀s',Inv X pins σ (upd H a (.dK (putK kvs k v))) s'->Q () s'):
  wpAny (model X.prog X.w) A (setItem (.ref a) u r) Q E s:=by
 obtain⟨z,hd,vs,rel,dd⟩:=zQx I.hok e
 refine wpAny_setItem_pairs (hsz:=by rw[<- rel.length];exact z) (zKb ry) dd fun h' dd' hs=>h _ ?_
 exact zIj I (by rw[e];exact True.intro) hs (let ⟨q,_,_,hq,_⟩:=dd';⟨q,hq⟩) (zLl (xq (zCa kvs k v) l) hd (rel.put k rv) dd')
theorem zRo:PSet X (pOf K DS.putN):=by
 intro pins s σ H o i v ov iv u Q I ro ri rv hq26
 obtain⟨J,S,d1,d2,d3,S',ha,r1,r2,r3,e,k⟩:=hq26
 unfold DS.putN at e
 split at e
 ·rename_i n
  obtain⟨a,ea,rfl⟩:=r1
  obtain⟨c,ec,ob,eo,rc⟩:=ha.at ea
  split at e
  ·rename_i ks vs es
   rw[ec]at es;cases es
   obtain⟨xs,q,rl⟩:=rc
   split at e
   ·rename_i hk
    cases e
    cases ro
    have hk1:=hk.1
    unfold DS.zBw at hk1
    rw[xg]at hk1
    rcases q with⟨_,kvs,rfl,rfl,rfl⟩|⟨z,_⟩
    ·obtain⟨kk,rfl⟩:=zF6 hk1.1 fun l z=>by subst z;cases hk1.2
     obtain rfl:=zDc r2
     obtain⟨p1,p2⟩:=zPd (fun a b=>zDd) (k:=kk) rl r3
     exact zRc I eo (by have:=hk.2;rw[xE]at this;exact this) ri rv fun s' I'=>⟨_,I',k _ (ha.write ea ⟨_,.inl ⟨rfl,_,rfl,p1,rfl⟩,p2⟩) (.write ea)⟩
    ·cases z
   ·cases e
  ·cases e
 ·cases e
end
end L2
namespace DS
noncomputable section
open Classical
noncomputable def mulE (S:Store) (x y:D):Option D:=match litems S x,y with
 | some l,.int n=>if l≠[]/\0<=n/\l.length*n.toNat<=most/\n<=1000000 then some (.lst (List.replicate n.toNat l).flatten)else none
 | _,_=>mulD S x y
end
end DS
namespace DS
open PySem (Str)
noncomputable section
open Classical
noncomputable def strsOf:List D->Option (List Str)
 | []=>some []
 | .str x::r=>(strsOf r).map (x::·)
 | _=>none
theorem zCo:∀l:List Str,strsOf (l.map D.str)=some l
 | []=>rfl
 | a::l=>by show(strsOf (l.map D.str)).map (a::·)=_;rw[zCo l];rfl
theorem zDm:∀{l:List D}{xs:List Str},strsOf l=some xs->l=xs.map D.str
 | [],xs,h=>by cases h;rfl
 | a::l,xs,h=>by
  cases a with
  | str x=>
   have h:(strsOf l).map (x::·)=some xs:=h
   cases e:strsOf l with
   | none=>rw[e]at h;cases h
   | some ys=>rw[e]at h;cases h;rw[zDm e];rfl
  | _=>cases h
noncomputable def joinM (S:Store) (x:D) (xs:List D):Option (D × Store):=match x,xs with
 | .str sep,[d]=>match(match look S d with|some (.lst l)=>strsOf l|_=>none)with
  | some ys=>if sep.length<=16/\(ys.map (·.length)).sum+ys.length<=1048576 then some (.str (PySem.Txt.join sep ys),S)else none
  | none=>none
 | _,_=>none
end
end DS
namespace DS
noncomputable def exOf (d:D):Exn:=⟨"",[("",d)]⟩
noncomputable def Rs.ne {α:Type}(r:Rs α):Rs α:=match r with
 | .ok a S=>.ok a S
 | _=>.bad
noncomputable def SR.ne (r:SR):SR:=match r with
 | .ex _ _=>.bad
 | r=>r
noncomputable def neR {α:Type}(m:Env->Store->Rs α):Env->Store->Rs α:=fun env S=>(m env S).ne
noncomputable def neS (m:SM):SM:=fun env S=>(m env S).ne
@[simp] theorem Rs.ne_ok {α:Type}{a:α}{S:Store}:(Rs.ok a S).ne=.ok a S:=rfl
@[simp] theorem SR.ne_nx {e:Env}{S:Store}:(SR.nx e S).ne=.nx e S:=rfl
@[simp] theorem SR.ne_rt {d:D}{S:Store}:(SR.rt d S).ne=.rt d S:=rfl
noncomputable def mkX (C:Nat) (f:PySem.Str) (ds:List D):Option D:=match ds with
 | [d]=>some (.st [.int C,.str f,d])
 | _=>none
noncomputable def fldL (f:PySem.Str):List D->Option D
 | .str g::d::l=>if f == g then some d else fldL f l
 | _=>none
noncomputable def fldX (okC:Int->Bool) (f:PySem.Str) (d:D):Option D:=match d with
 | .st (.int c::l)=>if okC c then fldL f l else none
 | _=>none
noncomputable def eFld (okC:Int->Bool) (f:PySem.Str) (m:EM):EM:=fun env S=>(m env S).bind fun d S1=>lift (fldX okC f d) S1
noncomputable def isX (g:Int->Option Bool) (d:D):Option D:=match d with
 | .st (.int c::_)=>(g c).map .bl
 | _=>none
noncomputable def eIsX (g:Int->Option Bool) (m:EM):EM:=fun env S=>(m env S).bind fun d S1=>lift (isX g d) S1
noncomputable def inC (l:List Nat) (c:Int):Bool:=l.any fun(n:Nat)=>c == (n:Int)
noncomputable def lkC (l:List (Nat × Bool)) (c:Int):Option Bool:=(l.find? fun p=>c == (p.1:Int)).map (·.2)
end DS
namespace DS
noncomputable def eExc (mk:List D->Option D) (am:AM):EM:=fun env S=>(am env S).bind fun ds S1=>lift (mk ds) S1
noncomputable def mkX0 (C:Nat) (ds:List D):Option D:=match ds with
 | []=>some (.st [.int C])
 | _=>none
noncomputable def zH3 (isC:Int->Bool) (j:Nat) (m:EM) (ms:SM):SM:=fun env S=>match m env S with
 | .ok (.st (.int c::l)) S1=>if isC c=true then(match ms (env.set j (some (.st (.int c::l)))) S1 with
  | .nx e S2=>.nx (e.set j none) S2
  | _=>.bad)else .bad
 | _=>.bad
end DS
namespace DS
open PySem (PyData)
noncomputable section
open Classical
mutual
/-- what is shown: numbers,texts,truths,None,tuples and lists of them -/
noncomputable def pdM:D->Option PyData
 | .non=>some .none
 | .bl b=>some (.bool b)
 | .int i=>some (.int i)
 | .str x=>some (.str x)
 | .tup l=>(pdsM l).map .tuple
 | .lst l=>(pdsM l).map .list
 | _=>none
noncomputable def pdsM:List D->Option (List PyData)
 | []=>some []
 | d::l=>match pdM d,pdsM l with
  | some p,some q=>some (p::q)
  | _,_=>none
end
noncomputable def zEh (_:Store):List D->Option D
 | [.lst l]=>match pdM (.lst l)with
  | some p=>if p.showable=true/\p.depth<=60/\p.shown.length<=most then some (.str p.shown)else none
  | none=>none
 | _=>none
mutual
theorem zL7:∀(d:D) (p:PyData),pdM d=some p->p.hasDict=false
 | .non,p,h=>by unfold pdM at h;cases h;rfl
 | .bl _,p,h=>by unfold pdM at h;cases h;rfl
 | .int _,p,h=>by unfold pdM at h;cases h;rfl
 | .str _,p,h=>by unfold pdM at h;cases h;rfl
 | .tup l,p,h=>by
  unfold pdM at h
  obtain⟨r,e,rfl⟩:=vy.mp h
  exact zEi l r e
 | .lst l,p,h=>by
  unfold pdM at h
  obtain⟨r,e,rfl⟩:=vy.mp h
  exact zEi l r e
 | .ty _,p,h=>by unfold pdM at h;cases h
 | .ktup _,p,h=>by unfold pdM at h;cases h
 | .klst _,p,h=>by unfold pdM at h;cases h
 | .dct _ _ _,p,h=>by unfold pdM at h;cases h
 | .st _,p,h=>by unfold pdM at h;cases h
 | .ref _,p,h=>by unfold pdM at h;cases h
theorem zEi:∀(l:List D) (q:List PyData),pdsM l=some q->PyData.hasDictAll q=false
 | [],q,h=>by unfold pdsM at h;cases h;rfl
 | d::l,q,h=>by
  unfold pdsM at h
  split at h
  ·rename_i p q' e1 e2
   cases h
   show(p.hasDict || PyData.hasDictAll q')=false
   rw[zL7 d p e1,zEi l q' e2]
   rfl
  ·cases h
end
end
end DS
namespace DP
open DS
noncomputable section
noncomputable def zEw:SM:=
  (sSeq (sSet 2 (zAn 1 [] (iVal (eSl slD (eVar 0) (pYes (eVar 1)) (pYes (eC (.int 63))))) (gName 0) tYes (eCB max2B (zA0 (eVar 0) (zA0 (eOp subD (eC (.int 0)) (eVar 0)) aNil)))))
  (sSeq (sSet 3 (eOp addD (eC (.int 7919)) (eVar 1)))
  (sSeq (sFor (iVal (eVar 2)) (gName 4) (sSet 3 (eOp modD (eOp addD (eOp mulD (eVar 3) (eC (.int 48271))) (eOp modD (eVar 4) (eC (.int 2147483629)))) (eC (.int 2147483647)))))
  (sRet (zKo [(.str (PySem.Str.ofString "seed")),(.str (PySem.Str.ofString "number")),(.str (PySem.Str.ofString "left"))] (zA0 (eVar 3) (zA0 (eC (.int 0)) (zA0 (eNew (eUn revL (zAn 1 [] (iVal (eVar 2)) (gName 0) (tB (eOp geD (eVar 0) (eOp powD (eC (.int 10)) (eC (.int 18))))) (eVar 0)))) aNil))))))))
noncomputable def zBd:Fn:=zCm 2 5 zEw
noncomputable def zEv:SM:=
  (sSeq (zC7 (tAnd (tB (eOp eqI (eOp ixD (eVar 0) (eC (.str (PySem.Str.ofString "number")))) (eC (.int 0)))) (tB (eOp gtD (eCB lenB (zA0 (eOp ixD (eVar 0) (eC (.str (PySem.Str.ofString "left")))) aNil)) (eC (.int 0))))) (sPut putN (eVar 0) (eC (.str (PySem.Str.ofString "number"))) (eMt "list" popM (eOp ixD (eVar 0) (eC (.str (PySem.Str.ofString "left")))) aNil)))
  (sSeq (sSet 2 (eOp ixD (eVar 0) (eC (.str (PySem.Str.ofString "number")))))
  (sSeq (sIf (tB (eOp gtD (eVar 2) (eC (.int 0)))) (sSeq (sPut putN (eVar 0) (eC (.str (PySem.Str.ofString "number"))) (eOp zI6 (eVar 2) (eVar 1)))
  (sRet (eOp modD (eVar 2) (eVar 1)))) zDp)
  (sSeq (sSet 3 (eOp modD (eOp addD (eOp mulD (eOp ixD (eVar 0) (eC (.str (PySem.Str.ofString "seed")))) (eC (.int 48271))) (eC (.int 7919))) (eC (.int 2147483647))))
  (sSeq (sPut putN (eVar 0) (eC (.str (PySem.Str.ofString "seed"))) (eOp modD (eOp addD (eOp mulD (eVar 3) (eC (.int 40692))) (eC (.int 104729))) (eC (.int 2147483399))))
  (sSeq (sSet 4 (eOp modD (eOp mulD (eOp ixD (eVar 0) (eC (.str (PySem.Str.ofString "seed")))) (eOp ixD (eVar 0) (eC (.str (PySem.Str.ofString "seed"))))) (eC (.int 2147483563))))
  (sRet (eOp modD (eOp addD (eOp mulD (eOp modD (eOp mulD (eVar 3) (eVar 3)) (eC (.int 2147483629))) (eC (.int 2147483563))) (eVar 4)) (eVar 1)))))))))
noncomputable def zA1:Fn:=zAt 2 5 zEv
noncomputable def zEd:SM:=
  (sSeq (sSet 1 (eNew (eLst (zA0 (eIsX (lkC [(106,true),(44,true),(63,true),(94,true),(82,true)]) (eVar 0)) (zA0 (eIsX (lkC [(106,true),(44,true),(63,true),(94,true),(82,true)]) (eVar 0)) aNil)))))
  (sSeq (sSet 1 (eNew (eOp catD (eVar 1) (eLst (zA0 (eIsX (lkC [(106,false),(44,true),(63,false),(94,false),(82,false)]) (eVar 0)) (zA0 (eIsX (lkC [(106,false),(44,false),(63,true),(94,false),(82,false)]) (eVar 0)) aNil))))))
  (sSeq (zC8 (eMt "list" zAu (eVar 1) (zA0 (eIsX (lkC [(106,false),(44,false),(63,false),(94,false),(82,true)]) (eVar 0)) aNil)))
  (sRet (eOp addD (eVar 1) (eLst (zA0 (eIsX (lkC [(106,false),(44,false),(63,false),(94,true),(82,false)]) (eVar 0)) (zA0 (eIsX (lkC [(106,true),(44,false),(63,false),(94,false),(82,false)]) (eVar 0)) aNil))))))))
noncomputable def zA9:Fn:=zAt 1 2 zEd
noncomputable def zGq:SM:=
  (sRet (eOp addD (eLst (zA0 (eC (.bl true)) (zA0 (eC (.bl true)) aNil))) (zAn 1 [0] (zB3 (zA0 (eC (.int 5)) aNil)) (gName 0) tYes (eOp eqI (eVar 0) (eVar 1)))))
noncomputable def zAb:Fn:=zAt 1 1 zGq
noncomputable def zB6:SM:=
  (sSeq (sSet 1 (eC (.str (PySem.Str.ofString "abcdefghijklmnopqrstuvwxyz ,.0123456789-"))))
  (sSeq (sSet 2 (eNew (eLst (zA0 (eOp subD (zA8 zA1 (zA0 (eVar 0) (zA0 (eOp powD (eC (.int 10)) (eC (.int 30))) aNil))) (eOp powD (eC (.int 10)) (eC (.int 29)))) (zA0 (eC .non) (zA0 (eOp eqI (zA8 zA1 (zA0 (eVar 0) (zA0 (eC (.int 2)) aNil))) (eC (.int 0))) aNil))))))
  (sSeq (zC8 (eMt "list" zAu (eVar 2) (zA0 (eMt "str" joinM (eC (.str (PySem.Str.ofString ""))) (zA0 (zAn 1 [1,0] (zB3 (zA0 (zA8 zA1 (zA0 (eVar 0) (zA0 (eC (.int 10)) aNil))) aNil)) (gName 0) tYes (eOp ixD (eVar 1) (zA8 zA1 (zA0 (eVar 2) (zA0 (eC (.int 40)) aNil))))) aNil)) aNil)))
  (sSeq (zC8 (eMt "list" zAu (eVar 2) (zA0 (eTup (zA0 (zA8 zA1 (zA0 (eVar 0) (zA0 (eC (.int 9)) aNil))) (zA0 (zA8 zA1 (zA0 (eVar 0) (zA0 (eC (.int 9)) aNil))) aNil))) aNil)))
  (sRet (eOp ixD (eVar 2) (zA8 zA1 (zA0 (eVar 0) (zA0 (eC (.int 5)) aNil)))))))))
noncomputable def zAq:Fn:=zAt 1 3 zB6
noncomputable def zDk:SM:=
  (sSeq (sSet 2 (eC .non))
  (sSeq (zH3 (inC [106,44,63,94,82]) 3 (eIf (neR (tB (eOp eqI (eVar 0) (eC (.int 0))))) (eExc (mkX 44 (PySem.Str.ofString "name")) (neR (zA0 (eVar 1) aNil))) (eIf (neR (tB (eOp eqI (eVar 0) (eC (.int 1))))) (eExc (mkX 63 (PySem.Str.ofString "row")) (neR (zA0 (eVar 1) aNil))) (eIf (neR (tB (eOp eqI (eVar 0) (eC (.int 2))))) (eExc (mkX 82 (PySem.Str.ofString "many")) (neR (zA0 (eVar 1) aNil))) (eIf (neR (tB (eOp eqI (eVar 0) (eC (.int 3))))) (eExc (mkX0 94) aNil) (eExc (mkX0 106) aNil))))) (neS (sSeq (sSet 2 (eLst (zA0 (eIsX (lkC [(106,false),(44,true),(63,false),(94,false),(82,false)]) (eVar 3)) (zA0 (eIsX (lkC [(106,false),(44,false),(63,true),(94,false),(82,false)]) (eVar 3)) (zA0 (eIsX (lkC [(106,false),(44,false),(63,false),(94,false),(82,true)]) (eVar 3)) aNil)))))
  (sSet 2 (eOp addD (eVar 2) (eLst (zA0 (eIsX (lkC [(106,false),(44,false),(63,false),(94,true),(82,false)]) (eVar 3)) (zA0 (eIsX (lkC [(106,true),(44,false),(63,false),(94,false),(82,false)]) (eVar 3)) aNil))))))))
  (sRet (eVar 2))))
noncomputable def zAh:Fn:=zAt 2 4 zDk
noncomputable def zOt:SM:=
  (sSeq (sSet 1 (zA8 zBd (zA0 (eVar 0) (zA0 (eC (.int 0)) aNil))))
  (sSeq (sPar [2,3] (zA0 (zA8 zAq (zA0 (eVar 1) aNil)) (zA0 (zA8 zAq (zA0 (eVar 1) aNil)) aNil)))
  (sSeq (sSet 4 (eLst (zA0 (eExc (mkX 44 (PySem.Str.ofString "name")) (zA0 (eVar 2) aNil)) (zA0 (eExc (mkX 63 (PySem.Str.ofString "row")) (zA0 (eVar 2) aNil)) (zA0 (eExc (mkX 82 (PySem.Str.ofString "many")) (zA0 (eVar 2) aNil)) (zA0 (eExc (mkX0 94) aNil) (zA0 (eExc (mkX0 106) aNil) aNil)))))))
  (sSeq (sSet 5 (eLst (zA0 (eExc (mkX 44 (PySem.Str.ofString "name")) (zA0 (eVar 3) aNil)) (zA0 (eExc (mkX 63 (PySem.Str.ofString "row")) (zA0 (eVar 3) aNil)) (zA0 (eExc (mkX 82 (PySem.Str.ofString "many")) (zA0 (eVar 3) aNil)) aNil)))))
  (sSeq (sFor (iVal (eTup (zA0 (eTup (zA0 (eVar 4) (zA0 (eVar 2) aNil))) (zA0 (eTup (zA0 (eVar 5) (zA0 (eVar 3) aNil))) (zA0 (eTup (zA0 (eVar 4) (zA0 (eVar 2) aNil))) aNil))))) (gTup [(gName 6),(gName 7)]) (sIf (tB (eOp neD (eCB zEh (zA0 (eLst (zA0 (eFld (inC [44]) (PySem.Str.ofString "name") (eOp ixD (eVar 6) (eC (.int 0)))) (zA0 (eFld (inC [63]) (PySem.Str.ofString "row") (eOp ixD (eVar 6) (eC (.int 1)))) (zA0 (eFld (inC [82]) (PySem.Str.ofString "many") (eOp ixD (eVar 6) (eC (.int 2)))) aNil)))) aNil)) (eCB zEh (zA0 (eOp mulE (eLst (zA0 (eVar 7) aNil)) (eC (.int 3))) aNil)))) (sRet (eC (.bl false))) zDp))
  (sSeq (sFor (zB3 (zA0 (eC (.int 5)) aNil)) (gName 8) (sIf (tOr (tB (eOp neD (zA8 zA9 (zA0 (eOp ixD (eVar 4) (eVar 8)) aNil)) (zA8 zAb (zA0 (eVar 8) aNil)))) (tB (eOp neD (zA8 zAh (zA0 (eVar 8) (zA0 (eVar 2) aNil))) (eSl slD (zA8 zAb (zA0 (eVar 8) aNil)) (pYes (eC (.int 2))) pNo)))) (sRet (eC (.bl false))) zDp))
  (sRet (eCB allB (zA0 (zAn 1 [5] (zB3 (zA0 (eC (.int 3)) aNil)) (gName 0) tYes (eOp eqD (zA8 zA9 (zA0 (eOp ixD (eVar 1) (eVar 0)) aNil)) (zA8 zAb (zA0 (eVar 0) aNil)))) aNil)))))))))
noncomputable def zG8:Fn:=zAt 1 9 zOt
end
end DP
namespace L2
open PySem PySem.Spec PyProof.Rows
open DS (D Store Exn Rs SR)
section
variable {X:Cx}{K:PySem.W.Frag}
theorem zL9:OpR X (compareOp .Eq) (r2Of K DS.eqI):=by
 intro pins s σ H x y v u Q I rx ry hq27
 obtain⟨J,S,d1,d2,d,ha,r1,r2,e,k⟩:=hq27
 unfold DS.eqI at e
 split at e
 ·cases e
  obtain rfl:=r1
  obtain rfl:=r2
  obtain⟨t,rfl⟩:=rx
  obtain⟨t',rfl⟩:=ry
  exact eq_int ⟨.bl _,H,I,rfl,k _ H ha .refl rfl⟩
 ·cases e
end
end L2
namespace L2
open PySem PySem.Spec PyProof.Rows
open DS (D Store Exn Rs SR)
section
open Classical
variable {X:Cx}{K:PySem.W.Frag}{E:XE}{J:Js}{S:Store}{H:Hp}
theorem zF7:∀{ys:List Str}{xs:List V},RepL K J H (ys.map D.str) xs->xs=ys.map V.str
 | [],xs,h=>by cases h;rfl
 | y::ys,xs,h=>by
  obtain⟨x,r,rfl,hx,hr⟩:=h
  obtain rfl:=hx
  rw[zF7 hr]
  rfl
theorem zK6 (hK:X.K=K:=by rfl):MtR X "str.join" (mOf K DS.joinM):=by
 subst hK
 intro pins s σ H x xs v us Q I rx rs hq
 obtain⟨J,S,d1,ds,d,S',ha,r1,rl,e,k⟩:=hq
 unfold DS.joinM at e
 split at e
 ·rename_i sep d0
  obtain⟨y,rfl,ry⟩:=zCr (ds:=[]) rl
  obtain rfl:=r1
  split at e
  ·rename_i ys e1
   split at e
   ·rename_i h
    cases e
    split at e1
    ·rename_i l e2
     have el:=DS.zDm e1
     obtain⟨b,zs,rfl,hq,q⟩:=zDt ha ry e2
     rw[el]at q
     obtain rfl:=zF7 q
     exact zNg rfl pins s σ H _ _ v us Q I rx rs ⟨_,_,_,rfl,rfl,hq,h.1,h.2,k _ H ha .refl rfl⟩
    ·cases e1
   ·cases e
  ·cases e
 ·cases e
end
end L2
namespace L2
open PySem PySem.Spec PyProof.Rows
open DS (D Store Exn Rs SR)
section
variable {X:Cx}{K:PySem.W.Frag}{J:Js}{S:Store}{H:Hp}{pins:List (Addr × Obj)}{σ:St}{s:Shared}
mutual
theorem zDq (I:Inv X pins σ H s) (ha:AbS X.K J S H):∀(d:D) (p:PyData) (x:V) (u:Value),DS.pdM d=some p->Rep X.K J H d x->RelV x u->∃as,Reads s.heap u p as
 | .int i,p,x,u,h,r,ru=>by
  unfold DS.pdM at h
  cases h
  obtain rfl:=r
  obtain⟨t,rfl⟩:=ru
  exact⟨_,.int i t⟩
 | .str i,p,x,u,h,r,ru=>by
  unfold DS.pdM at h
  cases h
  obtain rfl:=r
  obtain⟨t,rfl⟩:=ru
  exact⟨_,.str i t⟩
 | .non,p,x,u,h,r,ru=>by
  unfold DS.pdM at h
  cases h
  obtain rfl:=r
  cases ru
  exact⟨_,.none⟩
 | .bl b,p,x,u,h,r,ru=>by
  unfold DS.pdM at h
  cases h
  obtain rfl:=r
  cases ru
  exact⟨_,.bool b⟩
 | .tup l,p,x,u,h,r,ru=>by
  unfold DS.pdM at h
  obtain⟨q,e,rfl⟩:=vy.mp h
  obtain⟨a,xs,rfl,ta,rl⟩:=r
  cases ru
  obtain⟨its,rv,⟨o,ho,hc,n,hd⟩,_⟩:=I.tuple ta.sq
  obtain⟨as,ra⟩:=zBn I ha l q xs its e rl rv
  exact⟨as,.tuple ho hc hd (by simpa using ra)⟩
 | .lst l,p,x,u,h,r,ru=>by
  unfold DS.pdM at h
  obtain⟨q,e,rfl⟩:=vy.mp h
  obtain⟨a,xs,rfl,hq,rl⟩:=zDt (l:=l) ha r rfl
  cases ru
  obtain⟨its,rv,ht,_⟩:=I.list hq
  obtain⟨o,ho,hc,n,hd⟩:=ht.isList
  obtain⟨as,ra⟩:=zBn I ha l q xs its e rl rv
  exact⟨_,.list ho hc hd (by simpa using ra)⟩
 | .ty _,p,_,_,h,_,_=>by unfold DS.pdM at h;cases h
 | .ktup _,p,_,_,h,_,_=>by unfold DS.pdM at h;cases h
 | .klst _,p,_,_,h,_,_=>by unfold DS.pdM at h;cases h
 | .dct _ _ _,p,_,_,h,_,_=>by unfold DS.pdM at h;cases h
 | .st _,p,_,_,h,_,_=>by unfold DS.pdM at h;cases h
 | .ref _,p,_,_,h,_,_=>by unfold DS.pdM at h;cases h
theorem zBn (I:Inv X pins σ H s) (ha:AbS X.K J S H):∀(l:List D) (q:List PyData) (xs:List V) (us:List Value),DS.pdsM l=some q->RepL X.K J H l xs->Vals xs us->∃as,ReadsAll s.heap us q as
 | [],q,xs,us,h,r,rv=>by
  unfold DS.pdsM at h
  cases h
  cases(show xs=[]from r)
  cases rv
  exact⟨_,.nil⟩
 | d::l,q,xs,us,h,r,rv=>by
  unfold DS.pdsM at h
  split at h
  ·rename_i p q' e1 e2
   cases h
   obtain⟨x,xs',rfl,rx,rl⟩:=r
   cases rv with
   | cons ru rv'=>
    obtain⟨as,h1⟩:=zDq I ha d p x _ e1 rx ru
    obtain⟨bs,h2⟩:=zBn I ha l q' xs' _ e2 rl rv'
    exact⟨_,.cons h1 h2⟩
  ·cases h
end
theorem zGg (hu:X.A.units+64<cLine) (hK:X.K=K:=by rfl):zBl X (.builtin "repr") (cOf K DS.zEh):=by
 subst hK
 intro pins s σ H xs us Q I r hq28
 obtain⟨J,S,ds,d,ha,rl,e,k⟩:=hq28
 unfold DS.zEh at e
 split at e
 ·rename_i l
  split at e
  ·rename_i p ep
   split at e
   ·rename_i hh
    cases e
    obtain⟨hs,hd,hz⟩:=hh
    obtain⟨x,rfl,rx⟩:=zCr (ds:=[]) rl
    obtain⟨u,rfl,ru⟩:=vals1 r
    obtain⟨as,rd⟩:=zDq I ha _ p x u ep rx ru
    obtain⟨a,xs,rfl,_⟩:=zDt (l:=l) ha rx rfl
    cases ru
    exact repr_of_reads' rd hs (PyData.noDict_hsm (DS.zL7 _ p ep)) I.ok.gds (by nofun) (fun _ _ e=>e) (fun h' u tk kp=>⟨.str p.shown,H,I.kept (t':=tk) kp,⟨u,rfl⟩,k _ H ha .refl rfl⟩) hz
   ·cases e
  ·cases e
 ·cases e
end
end L2
namespace L2
open PySem PySem.Spec PyProof.Rows
open DS (D Store Exn Rs SR)
theorem zFj (its:List Value):∀(k:Nat) (acc:List Value),List.foldl (fun x1 x2=>x1++x2) acc.toArray (List.replicate k its.toArray)=(acc++(List.replicate k its).flatten).toArray
 | 0,acc=>by simp
 | k+1,acc=>by
  rw[vH,List.foldl_cons,show acc.toArray++its.toArray=(acc++its).toArray by simp,zFj its k]
  simp[vH]
theorem zEz {xs:List V}{us:List Value}(h:Vals xs us):∀k:Nat,Vals (List.replicate k xs).flatten (List.replicate k us).flatten
 | 0=>.nil
 | k+1=>by simpa[vH]using h.append (zEz h k)
section
variable {X:Cx}{K:PySem.W.Frag}{J:Js}{S:Store}{H:Hp}
theorem zH5 {ds:List D}{xs:List V}(h:RepL K J H ds xs):∀k:Nat,RepL K J H (List.replicate k ds).flatten (List.replicate k xs).flatten
 | 0=>rfl
 | k+1=>by simpa[vH]using h.append (zH5 h k)
theorem zNe {pins:List (Addr × Obj)}{σ:St}{s:Shared}{a:Addr}{xs:List V}{n:Int}{t:Tok}{Q:VK}(I:Inv X pins σ H s) (h1:Rd H a (.lst xs)) (hx:xs≠[]) (h0:0<=n) (h2:n<=1000000) (hz:xs.length*n.toNat<=sizeLine)
  (q:∀p,H p=none->Q (.ref p) (upd H p (.lst (List.replicate n.toNat xs).flatten))):wpAny (model X.prog X.w) X.A (binaryOp .Mult (.ref a) (.int n t)) (EP X pins σ Q) X.xe s:=by
 obtain⟨z,its,k,r,hl,e⟩:=I.lstR h1
 have ne:its.toArray.isEmpty=false:=by
  cases its with
  | nil=>exact absurd (vQ hl) hx
  | cons u us=>rfl
 have sz:its.toArray.size*n.toNat<=sizeLine:=by rw[xm,<- hl];exact hz
 have sl:sizeLine<=2 ^ 24:=by decide
 refine wpAny_binaryOp_repeat_ref (by decide) ⟨_,e,rfl⟩ (fun s'=>typeIs_int s' n t) noFill_list_mul F.fills_int_mul F.slot_int_rmul repeat_list F.slot_int_index.lookup ?_
 refine call_meets F.slot_int_rmul (typeIs_int s n t) F.entry_int_rmul (F.args_int_rmul_2 _ _) (int___rmul___int_list n t a its.toArray k) ⟨e,rfl,⟨_,e,rfl⟩,?_⟩
 refine call_meets F.slot_list_mul ⟨_,e,rfl⟩ F.entry_list_mul (F.args_list_mul_2 _ _) (AutoListH.list___mul___list_int_3 a its.toArray k n t (by simp[Builtin.List.listFitsIndex];lia) (by nofun) (by simp only[Builtin.List.listTooLong];simpa using sz)) ⟨e,?_⟩
 rw[ne]
 simp only[vk,if_false]
 rw[show(#[]:Array Value)=([]:List Value).toArray from rfl,zFj its n.toNat [],vC]
 exact⟨.ref _,_,I.lnew (zEz r n.toNat) (by rw[len_rep,Nat.mul_comm];exact hz),rfl,q _ I.fresh⟩
theorem zN6:OpR X (binaryOp .Mult) (r2Of K DS.mulE):=by
 intro pins s σ H x y v u Q I rx ry hq29
 obtain⟨J,S,d1,d2,d,ha,r1,r2,e,k⟩:=hq29
 unfold DS.mulE at e
 split at e
 ·rename_i l n e1
  split at e
  ·rename_i h
   cases e
   obtain⟨a,xs,rfl,h1,q1⟩:=zBh ha r1 e1
   obtain rfl:=r2
   cases rx
   obtain⟨t,rfl⟩:=ry
   have el:=q1.length
   exact zNe I h1 (fun z=>h.1 (by subst z;exact vQ el)) h.2.1 h.2.2.2 (by rw[<- el];exact h.2.2.1) fun p n=>k _ _ (ha.push n) (.push n) ⟨p,_,rfl,⟨zA5,ha.out n⟩,RepL.grow (.push n) _ _ (zH5 q1 _)⟩
  ·cases e
 ·exact zHj pins s σ H x y v u Q I rx ry ⟨J,S,d1,_,d,ha,r1,r2,e,k⟩
end
end L2
namespace DS
open PySem (Str)
noncomputable section
open Classical
theorem zCw {n:Nat}:∀(S:Store),keeps n S S
 | []=>trivial
 | _::r=>⟨.inl rfl,zCw r⟩
theorem zFh {n:Nat}:∀{S S':Store},S.length=S'.length->(∀(i:Nat) (d:D),S'[i]?=some d->S[i]?=some d\/d.low n=true)->keeps n S S'
 | [],_,_,_=>trivial
 | a::r,[],e,_=>by simp at e
 | a::r,b::t,e,h=>⟨by
   rcases h 0 b rfl with q|q
   ·exact .inl (by simpa using q)
   ·exact .inr q,zFh (by simpa using e) fun i d q=>by simpa using h (i+1) d (by simpa using q)⟩
theorem zKl {S:Store}{d:D}(h:d.low S.length=true):fin S d S=.ok d S:=by
 unfold fin
 rw[xb (zCw S),xb h,List.take_length]
theorem zQk {S S':Store}{d:D}(e:S.length=S'.length) (k:∀(i:Nat) (d:D),S'[i]?=some d->S[i]?=some d\/d.low S.length=true) (h:d.low S.length=true):fin S d S'=.ok d S':=by
 unfold fin
 rw[xb (zFh e k),xb h,e,List.take_length]
theorem atN {l:List D}{i:Int}{k:Nat}{d:D}(h:i=(k:Int)) (e:l[k]?=some d):atL l i=some d:=by
 obtain⟨hk,_⟩:=xu.mp e
 unfold atL ixN
 rw[xb (by nofun),xb (by nofun)]
 show l[i.toNat]?=some d
 rw[show i.toNat=k by nofun];exact e
theorem atL0 {d:D}{l:List D}:atL (d::l) 0=some d:=atN rfl rfl
theorem atL1 {d e:D}{l:List D}:atL (d::e::l) 1=some e:=atN rfl rfl
theorem atL2 {d e f:D}{l:List D}:atL (d::e::f::l) 2=some f:=atN rfl rfl
theorem atL3 {d e f g:D}{l:List D}:atL (d::e::f::g::l) 3=some g:=atN rfl rfl
theorem ixT {S:Store}{l:List D}{i:Int}:ixD S (.tup l) (.int i)=atL l i:=rfl
theorem ixL {S:Store}{l:List D}{i:Int}:ixD S (.lst l) (.int i)=atL l i:=rfl
theorem zHt {S:Store}{l:List D}:items S (.tup l)=some l:=rfl
theorem zHu {S:Store}{l:List D}:items S (.lst l)=some l:=rfl
theorem zK7 {S:Store}{l:List D}:look S (.tup l)=some (.tup l):=rfl
theorem zK8 {S:Store}{l:List D}:look S (.lst l)=some (.lst l):=rfl
theorem zK9 {S:Store}{i:Int}:look S (.int i)=some (.int i):=rfl
theorem zNi {S:Store}{b:Bool}:look S (.bl b)=some (.bl b):=rfl
theorem zCs {S:Store}{a b:Int}(h:sm a/\sm b):mulD S (.int a) (.int b)=some (.int (a*b)):=xb h
end
end DS
local macro_rules | `(tactic| simp_arith [$ls,*]) => `(tactic| simp only [DS.sSeq, DS.sSet, DS.sRet, DS.zRp, DS.zDp, DS.sIf, DS.sUnp, DS.zC8, DS.sPar, DS.zGz, DS.eVar, DS.eC, DS.eOp, DS.eUn, DS.aNil, DS.zA0, DS.eTup, DS.eLst, DS.eCB, DS.zA8, DS.eSl, DS.pNo, DS.pYes, DS.asI, DS.asB, DS.tB, DS.tAnd, DS.tOr, DS.tNot, DS.tYes, DS.eAnd, DS.eOr, DS.eNot, DS.eIf, DS.Rs.bind_ok, DS.Rs.then_ok, DS.zAd, DS.zCv, DS.gName, DS.gTup, DS.gAll, DS.zHt, DS.zHu, DS.zK7, DS.zK8, DS.zK9, DS.zNi, vK, Option.map_none, List.getElem?_cons_zero, List.getElem?_cons_succ, List.set_cons_zero, List.set_cons_succ, xH, vx, xt, x4, List.replicate, List.cons_append, vC, Nat.zero_add, Nat.reduceAdd, Nat.reduceSub, Nat.reduceLT, Nat.reduceEqDiff, xj, if_false, DS.addD, DS.subD, DS.ixT, DS.ixL, DS.atL0, DS.atL1, DS.atL2, DS.atL3, Bool.not_true, Bool.not_false, vk, reduceIte, $ls,*])
namespace DS
open PySem (Str)
noncomputable section
open Classical
noncomputable abbrev zBo:D:=.str (Str.ofString "seed")
noncomputable abbrev kNum:D:=.str (Str.ofString "number")
noncomputable abbrev zCd:D:=.str (Str.ofString "left")
theorem zGy {a b:String}(h:(Str.ofString a).cps≠(Str.ofString b).cps):D.str (Str.ofString a)≠D.str (Str.ofString b):=fun e=>h (by injection e with e;rw[e])
theorem ne1:zBo≠kNum:=zGy (by decide +kernel)
theorem ne2:zBo≠zCd:=zGy (by decide +kernel)
theorem ne3:kNum≠zCd:=zGy (by decide +kernel)
noncomputable def zBr (seed num:Int) (m:Nat):D:=.dct false [zBo,kNum,zCd] [.int seed,.int num,.ref m]
structure DealAt (S:Store) (n m:Nat) (seed num:Int) (left:List Int):Prop where
 d:S[n]?=some (zBr seed num m)
 l:S[m]?=some (.lst (left.map D.int))
 ne:n≠m
 lo:0<=seed
 hi:seed<2147483647
section
variable {S:Store}{n m:Nat}{seed num:Int}{left:List Int}
theorem zEn (h:DealAt S n m seed num left):ixD S (.ref n) zBo=some (.int seed):=by
 unfold ixD look
 simp only[h.d]
 simp only[zBr]
 rw[xb (show zBw false zBo=true from rfl),look2,xb rfl]
theorem zHq (h:DealAt S n m seed num left):ixD S (.ref n) kNum=some (.int num):=by
 unfold ixD look
 simp only[h.d]
 simp only[zBr]
 rw[xb (show zBw false kNum=true from rfl),look2,xc ne1,look2,xb rfl]
theorem zHr (h:DealAt S n m seed num left):ixD S (.ref n) zCd=some (.ref m):=by
 unfold ixD look
 simp only[h.d]
 simp only[zBr]
 rw[xb (show zBw false zCd=true from rfl),look2,xc ne2,look2,xc ne3,look2,xb rfl]
theorem zH8 (h:DealAt S n m seed num left) (x:Int):putN S (.ref n) kNum (.int x)=some (S.set n (zBr seed x m)):=by
 unfold putN
 simp only[h.d]
 simp only[zBr]
 rw[xb ⟨rfl,by decide⟩]
 unfold put2
 rw[xb (by simp)]
 dsimp only
 rw[repl2,xc ne1,repl2,xb rfl,repl2,xc (xk ne3),repl2]
 all_goals simp
theorem zJi (h:DealAt S n m seed num left) (x:Int):putN S (.ref n) zBo (.int x)=some (S.set n (zBr x num m)):=by
 unfold putN
 simp only[h.d]
 simp only[zBr]
 rw[xb ⟨rfl,by decide⟩]
 unfold put2
 rw[xb (by simp)]
 dsimp only
 rw[repl2,xb rfl,repl2,xc (xk ne1),repl2,xc (xk ne2),repl2]
 all_goals simp
theorem DealAt.lt (h:DealAt S n m seed num left):n<S.length:=(xu.mp h.d).1
theorem DealAt.ltm (h:DealAt S n m seed num left):m<S.length:=(xu.mp h.l).1
theorem DealAt.set_num (h:DealAt S n m seed num left) (x:Int):DealAt (S.set n (zBr seed x m)) n m seed x left:=⟨by rw[xF h.lt],by rw[xr h.ne];exact h.l,h.ne,h.lo,h.hi⟩
theorem DealAt.set_seed (h:DealAt S n m seed num left) (x:Int) (h1:0<=x) (h2:x<2147483647):DealAt (S.set n (zBr x num m)) n m x num left:=⟨by rw[xF h.lt],by rw[xr h.ne];exact h.l,h.ne,h1,h2⟩
theorem DealAt.set_left (h:DealAt S n m seed num left) (l:List Int):DealAt (S.set m (.lst (l.map D.int))) n m seed num l:=⟨by rw[xr (xk h.ne)];exact h.d,by rw[xF h.ltm],h.ne,h.lo,h.hi⟩
structure Only (n m:Nat) (S S':Store):Prop where
 len:S'.length=S.length
 at_:∀k,k≠n->k≠m->S'[k]?=S[k]?
theorem Only.refl:Only n m S S:=⟨rfl,fun _ _ _=>rfl⟩
theorem Only.trans {S' S'':Store}(a:Only n m S S') (b:Only n m S' S''):Only n m S S'':=⟨b.len.trans a.len,fun k h1 h2=>(b.at_ k h1 h2).trans (a.at_ k h1 h2)⟩
theorem Only.set1 (d:D):Only n m S (S.set n d):=⟨by simp,fun k h1 _=>xr (xk h1)⟩
theorem Only.set2 (d:D):Only n m S (S.set m d):=⟨by simp,fun k _ h1=>xr (xk h1)⟩
noncomputable abbrev zGp:TM:=(tAnd (tB (eOp eqI (eOp ixD (eVar 0) (eC kNum)) (eC (.int 0)))) (tB (eOp gtD (eCB lenB (zA0 (eOp ixD (eVar 0) (eC zCd)) aNil)) (eC (.int 0)))))
noncomputable abbrev zGs:SM:=(sPut putN (eVar 0) (eC kNum) (eMt "list" popM (eOp ixD (eVar 0) (eC zCd)) aNil))
theorem zE1 {S:Store}{num:Int}{left:List Int}(env:Env) (he:env[0]?=some (some (.ref n))) (h:DealAt S n m seed num left):zGp env S=.ok false S\/∃ls x,left=ls++[x]/\zGp env S=.ok true S/\zGs env S=.nx env ((S.set m (.lst (ls.map D.int))).set n (zBr seed x m)):=by
 have e0:eVar 0 env S=.ok (.ref n) S:=by unfold eVar;rw[he]
 have el:look S (.ref m)=some (.lst (left.map D.int)):=h.l
 have c1:tB (eOp eqI (eOp ixD (eVar 0) (eC kNum)) (eC (.int 0))) env S=.ok (decide (num=0)) S:=by simp only[tB,eOp,eC,e0,Rs.bind_ok,zHq h,zAd,zNz,asB]
 have c2:tB (eOp gtD (eCB lenB (zA0 (eOp ixD (eVar 0) (eC zCd)) aNil)) (eC (.int 0))) env S=.ok (decide ((0:Int)<(left.map D.int).length)) S:=by simp only[tB,eOp,eC,eCB,zA0,aNil,e0,Rs.bind_ok,zHr h,zAd,lenB,el,gtD,asB]
 unfold zGp tAnd
 rw[c1,Rs.bind_ok]
 by_cases h0:num=0
 ·rw[xD h0,xb rfl,c2]
  by_cases hl:left=[]
  ·subst hl
   exact .inl rfl
  ·obtain⟨ls,x,rfl⟩:∃ls x,left=ls++[x]:=⟨left.dropLast,left.getLast hl,(List.dropLast_concat_getLast hl).symm⟩
   refine .inr ⟨ls,x,rfl,by rw[xD (by simp)],?_⟩
   have ty:tyD S (.ref m)=some "list":=by unfold tyD;rw[el]
   have pm:popM S (.ref m) []=some (.int x,S.set m (.lst (ls.map D.int))):=by
    unfold popM
    simp only[h.l]
    simp
   have e1:eVar 0 env (S.set m (.lst (ls.map D.int)))=.ok (.ref n) (S.set m (.lst (ls.map D.int))):=by unfold eVar;rw[he]
   simp only[zGs,sPut,eMt,eOp,aNil,eC,e0,Rs.bind_ok,Rs.then_ok,zAd,zHr h,ty,xj,pm,zCv,e1,zH8 (h.set_left ls)]
 ·rw[xB h0,xc (by decide)]
  exact .inl rfl
theorem zFv (env:Env) (he:env[0]?=some (some (.ref n))):∀(k:Nat) {S:Store}{num:Int}{left:List Int},left.length=k->DealAt S n m seed num left->∃S' num' left',zAf zGp zGs (k+1) env S=.nx env S'/\DealAt S' n m seed num' left'/\Only n m S S':=by
 intro k
 induction k with
 | zero=>
  intro S num left hk h
  rcases zE1 env he h with c|⟨ls,x,rfl,_⟩
  ·exact⟨S,num,left,by rw[zAf,c,Rs.then_ok,xc (by decide)],h,.refl⟩
  ·simp at hk
 | succ k ih=>
  intro S num left hk h
  rcases zE1 env he h with c|⟨ls,x,rfl,c,b⟩
  ·exact⟨S,num,left,by rw[zAf,c,Rs.then_ok,xc (by decide)],h,.refl⟩
  ·obtain⟨S',num',left',e,hd,o⟩:=ih (by simpa using hk) ((h.set_left ls).set_num x)
   refine⟨S',num',left',?_,hd,(Only.set2 _).trans ((Only.set1 _).trans o)⟩
   rw[zAf,c,Rs.then_ok,xb rfl,b]
   exact e
noncomputable def zRg:SM:=
  (sSeq (zC7 zGp zGs)
  (sSeq (sSet 2 (eOp ixD (eVar 0) (eC kNum)))
  (sSeq (sIf (tB (eOp gtD (eVar 2) (eC (.int 0)))) (sSeq (sPut putN (eVar 0) (eC kNum) (eOp zI6 (eVar 2) (eVar 1)))
  (sRet (eOp modD (eVar 2) (eVar 1)))) zDp)
  (sSeq (sSet 3 (eOp modD (eOp addD (eOp mulD (eOp ixD (eVar 0) (eC zBo)) (eC (.int 48271))) (eC (.int 7919))) (eC (.int 2147483647))))
  (sSeq (sPut putN (eVar 0) (eC zBo) (eOp modD (eOp addD (eOp mulD (eVar 3) (eC (.int 40692))) (eC (.int 104729))) (eC (.int 2147483399))))
  (sSeq (sSet 4 (eOp modD (eOp mulD (eOp ixD (eVar 0) (eC zBo)) (eOp ixD (eVar 0) (eC zBo))) (eC (.int 2147483563))))
  (sRet (eOp modD (eOp addD (eOp mulD (eOp modD (eOp mulD (eVar 3) (eVar 3)) (eC (.int 2147483629))) (eC (.int 2147483563))) (eVar 4)) (eVar 1)))))))))
theorem zBm {x:Int}(h1:0<=x) (h2:x<2147483648):sm x:=zP3 (by nofun) (by nofun)
theorem zFc {k:Nat}(h:m<k):(zBr seed num m).low k=true:=by
 show(lowL k [zBo,kNum,zCd] && lowL k [.int seed,.int num,.ref m])=true
 simp[lowL,D.low,h]
theorem low_ints {k:Nat}:∀(l:List Int),lowL k (l.map D.int)=true
 | []=>rfl
 | x::l=>by show(true && lowL k (l.map D.int))=true;rw[low_ints l];rfl
theorem zFk {S':Store}{seed' num':Int}{left':List Int}{d:D}(h:DealAt S n m seed num left) (h':DealAt S' n m seed' num' left') (o:Only n m S S') (hd:d.low S.length=true):fin S d S'=.ok d S':=by
 refine zQk o.len.symm (fun i e he=>?_) hd
 by_cases h1:i=n
 ·subst h1;rw[h'.d]at he;cases he;exact .inr (zFc h.ltm)
 ·by_cases h2:i=m
  ·subst h2;rw[h'.l]at he;cases he;exact .inr (low_ints left')
  ·rw[o.at_ i h1 h2]at he;exact .inl he
noncomputable def Deal (S:Store) (n m:Nat):Prop:=∃seed num left,DealAt S n m seed num left
theorem zNy {a b:Int}(hb:0<b) (hs:sm b):zI6 S (.int a) (.int b)=some (.int (a.fdiv b)):=xb ⟨by nofun,hs⟩
theorem zB2 {a b:Int}(hb:0<b):modD S (.int a) (.int b)=some (.int (a % b)):=xb hb
theorem zId {many:Int}(hm:0<many) (hs:sm many) (h:Deal S n m):∃(r:Int) (S':Store),zAt 2 5 zRg [.ref n,.int many] S=.ok (.int r) S'/\0<=r/\r<many/\Deal S' n m/\Only n m S S':=by
 obtain⟨seed,num,left,h⟩:=h
 obtain⟨S1,num1,left1,ew,h1,o1⟩:=zFv (env:=[some (.ref n),some (.int many),none,none,none]) rfl left.length rfl h
 have ew':zC7 zGp zGs [some (.ref n),some (.int many),none,none,none] S=.nx [some (.ref n),some (.int many),none,none,none] S1:=by
  rw[zH2 (by rw[ew];exact fun z=>nomatch z),ew]
 unfold zAt zRg
 simp only[xH,vx,Nat.reduceAdd,xj,xt,x4,Nat.reduceSub,List.replicate,List.cons_append,vC]
 rw[sSeq,ew']
 dsimp only
 have g:gtD S1 (.int num1) (.int 0)=some (.bl (decide (0<num1))):=rfl
 by_cases hp:0<num1
 ·have p1:=zH8 h1 (num1.fdiv many)
  have h2:=h1.set_num (num1.fdiv many)
  try simp_arith [xj]
  simp only[zHq h1]
  try simp_arith [xj]
  simp only[g,xD hp]
  try simp_arith [xj]
  simp only[sPut]
  try simp_arith [xj]
  simp only[zNy hm hs]
  try simp_arith [xj]
  simp only[p1]
  try simp_arith [xj]
  simp only[zB2 hm]
  try simp_arith [xj]
  exact⟨num1 % many,_,zFk h h2 (o1.trans (.set1 _)) rfl,vD _ (by nofun),vE _ hm,⟨_,_,_,h2⟩,o1.trans (.set1 _)⟩
 ·simp_arith [xj]
  simp only[zHq h1]
  try simp_arith [xj]
  simp only[g,xB hp]
  try simp_arith [xj]
  simp only[zEn h1]
  try simp_arith [xj]
  have s1:sm seed/\sm 48271:=⟨zBm h1.lo (by have:=h1.hi;lia),zBm (by decide) (by decide)⟩
  simp only[zCs s1]
  try simp_arith [xj]
  simp only[zB2 (show(0:Int)<2147483647 by decide)]
  try simp_arith [xj]
  generalize ho:(seed*48271+7919) % 2147483647=one
  have o0:0<=one:=by rw[<- ho];exact vD _ (by decide)
  have o9:one<2147483647:=by rw[<- ho];exact vE _ (by decide)
  simp only[sPut]
  try simp_arith [xj]
  simp only[zCs (show sm one/\sm 40692 from⟨zBm o0 (by nofun),zBm (by decide) (by decide)⟩)]
  try simp_arith [xj]
  simp only[zB2 (show(0:Int)<2147483399 by decide)]
  try simp_arith [xj]
  generalize hq:(one*40692+104729) % 2147483399=sd
  have s0:0<=sd:=by rw[<- hq];exact vD _ (by decide)
  have s9:sd<2147483399:=by rw[<- hq];exact vE _ (by decide)
  have p1:=zJi h1 sd
  have h2:=h1.set_seed sd s0 (by nofun)
  simp only[p1]
  try simp_arith [xj]
  simp only[zEn h2]
  try simp_arith [xj]
  simp only[zEn h2]
  try simp_arith [xj]
  simp only[zCs (show sm sd/\sm sd from⟨zBm s0 (by nofun),zBm s0 (by nofun)⟩)]
  try simp_arith [xj]
  simp only[zB2 (show(0:Int)<2147483563 by decide)]
  try simp_arith [xj]
  simp only[zCs (show sm one/\sm one from⟨zBm o0 (by nofun),zBm o0 (by nofun)⟩)]
  try simp_arith [xj]
  simp only[zB2 (show(0:Int)<2147483629 by decide)]
  try simp_arith [xj]
  generalize hw:one*one % 2147483629=w
  have w0:0<=w:=by rw[<- hw];exact vD _ (by decide)
  have w9:w<2147483629:=by rw[<- hw];exact vE _ (by decide)
  simp only[zCs (show sm w/\sm 2147483563 from⟨zBm w0 (by nofun),zBm (by decide) (by decide)⟩)]
  try simp_arith [xj]
  simp only[zB2 hm]
  try simp_arith [xj]
  exact⟨_,_,zFk h h2 (o1.trans (.set1 _)) rfl,vD _ (by nofun),vE _ hm,⟨_,_,_,h2⟩,o1.trans (.set1 _)⟩
end
end
end DS
namespace DS
open PySem (Str)
noncomputable section
open Classical
structure AtJ (env:Env) (j:Nat) (d:D) (env':Env):Prop where
 len:env'.length=env.length
 at_:env'[j]?=some (some d)
 o:∀i:Nat,i≠j->env'[i]?=env[i]?
theorem AtJ.set {env:Env}{j:Nat}(h:j<env.length) (d:D):AtJ env j d (env.set j (some d)):=⟨by simp,by rw[xF h],fun i hi=>xr (xk hi)⟩
theorem AtJ.more {env env1 env2:Env}{j:Nat}{d e:D}(a:AtJ env j d env1) (b:AtJ env1 j e env2):AtJ env j e env2:=⟨b.len.trans a.len,b.at_,fun i hi=>(b.o i hi).trans (a.o i hi)⟩
theorem zCg {gd:List (Nat × D)}{j:Nat}{c:TM}{e:EM}{f:D->D}{p:D->Bool}{S:Store}(hg:gOk S gd):∀(l:List D) (k:Nat) (env:Env),j<env.length->k+l.length<=most->(∀d∈l,∀env',AtJ env j d env'->c env' S=.ok (p d) S)->(∀d∈l,p d=true->∀env',AtJ env j d env'->e env' S=.ok (f d) S)->
  zAz gd (gName j) c e k l env S=.ok ((l.filter p).map f) S
 | [],k,env,_,_,_,_=>by rw[zAz,xb hg];rfl
 | d::l,k,env,hj,hk,hc,he=>by
  have hk':k+(l.length+1)<=most:=hk
  rw[zAz,xb ⟨hg,by nofun⟩]
  have a:=AtJ.set hj d
  show(c (env.set j (some d)) S).bind _=_
  rw[hc d (.head _) _ a,Rs.bind_ok]
  have up:∀x env',AtJ (env.set j (some d)) j x env'->AtJ env j x env':=fun x env' q=>a.more q
  have r:=fun k' (h:k'+l.length<=most)=>zCg hg l k' (env.set j (some d)) (by simpa using hj) h (fun x hx env' q=>hc x (.tail _ hx) env' (up x env' q)) fun x hx hp env' q=>he x (.tail _ hx) hp env' (up x env' q)
  by_cases hp:p d=true
  ·rw[xb hp,he d (.head _) hp _ a,Rs.bind_ok,r (k+1) (by nofun),Rs.bind_ok,List.filter_cons_of_pos hp];rfl
  ·rw[xc hp,r k (by nofun),List.filter_cons_of_neg hp]
theorem comp_map {gd:List (Nat × D)}{j:Nat}{e:EM}{f:D->D}{S:Store}(hg:gOk S gd) {l:List D}{env:Env}(hj:j<env.length) (hk:l.length<=most) (he:∀d∈l,∀env',AtJ env j d env'->e env' S=.ok (f d) S):zAz gd (gName j) tYes e 0 l env S=.ok (l.map f) S:=by
 have:=zCg (p:=fun _=>true) hg l 0 env hj (by nofun) (fun _ _ _ _=>rfl) fun d hd _=>he d hd
 rwa[List.filter_eq_self.mpr fun _ _=>rfl]at this
theorem zB4 {S:Store}:gOk S []:=fun _ h=>nomatch h
theorem zI0 {gd:List (Nat × D)}{i j:Nat}{b:SM}{S:Store}{f:D->D->D}(hij:i≠j) (hg:gOk S gd) {I:D->Prop}:∀(l:List D) (env:Env) (a:D),env[i]?=some (some a)->j<env.length->I a->(∀d∈l,∀env' a,env'.length=env.length->env'[i]?=some (some a)->env'[j]?=some (some d)->I a->(∀k,k≠i->k≠j->env'[k]?=env[k]?)->b env' S=.nx (env'.set i (some (f a d))) S/\I (f a d))->
  ∃env',forL gd (gName j) b l env S=.nx env' S/\env'.length=env.length/\env'[i]?=some (some (l.foldl f a))/\I (l.foldl f a)/\∀k,k≠i->k≠j->env'[k]?=env[k]?
 | [],env,a,ha,hj,hi,_=>⟨env,by rw[forL,xb hg],rfl,ha,hi,fun _ _ _=>rfl⟩
 | d::l,env,a,ha,hj,hi,hb=>by
  have il:i<env.length:=(xu.mp ha).1
  obtain⟨e1,i1⟩:=hb d (.head _) (env.set j (some d)) a (by simp) (by rw[xr (xk hij)];exact ha) (by rw[xF hj]) hi fun k _ hk=>xr (xk hk)
  obtain⟨env',e2,l2,a2,i2,o2⟩:=zI0 hij hg l ((env.set j (some d)).set i (some (f a d))) (f a d) (by rw[xF (by simpa using il)]) (by simpa using hj) i1 fun x hx env' a' hl h1 h2 h3 h4=>hb x (.tail _ hx) env' a' (by simpa using hl) h1 h2 h3 fun k k1 k2=>by
   rw[h4 k k1 k2,xr (xk k1),xr (xk k2)]
  refine⟨env',?_,by simpa using l2,a2,i2,fun k k1 k2=>by rw[o2 k k1 k2,xr (xk k1),xr (xk k2)]⟩
  rw[forL,xb hg]
  show(match b (env.set j (some d)) S with|.nx e S1=>forL gd (gName j) b l e S1|.ct e S1=>forL gd (gName j) b l e S1|.bk e S1=>.nx e S1|q=>q)=_
  rw[e1]
  exact e2
end
end DS
namespace DS
open PySem (Str)
noncomputable section
open Classical
noncomputable def absI (x:Int):Int:=if 0-x > x then 0-x else x
noncomputable abbrev eAbs:EM:=eCB max2B (zA0 (eVar 0) (zA0 (eOp subD (eC (.int 0)) (eVar 0)) aNil))
noncomputable abbrev zIz (i j:Nat):SM:=sSet i (eOp modD (eOp addD (eOp mulD (eVar i) (eC (.int 48271))) (eOp modD (eVar j) (eC (.int 2147483629)))) (eC (.int 2147483647)))
noncomputable abbrev zO0 (i:Nat):EM:=zAn 1 [] (iVal (eVar i)) (gName 0) (tB (eOp geD (eVar 0) (eOp powD (eC (.int 10)) (eC (.int 18))))) (eVar 0)
noncomputable abbrev zJg (i j:Nat):SM:=sRet (zKo [zBo,kNum,zCd] (zA0 (eVar j) (zA0 (eC (.int 0)) (zA0 (eNew (eUn revL (zO0 i))) aNil))))
theorem zKy {S:Store}{env:Env}(ns:List Int) (h:ns.length<=most):zAz [] (gName 0) tYes eAbs 0 (ns.map D.int) (compEnv 1 [] env) S=.ok ((ns.map absI).map D.int) S:=by
 have:=comp_map (j:=0) (e:=eAbs) (f:=fun d=>match d with|.int x=>.int (absI x)|d=>d) (S:=S) (l:=ns.map D.int) (env:=compEnv 1 [] env) zB4 (by simp[compEnv]) (by simpa using h) fun d hd env' a=>by
  obtain⟨x,_,rfl⟩:=ve.mp hd
  have e0:∀S,eVar 0 env' S=.ok (.int x) S:=fun S=>by unfold eVar;rw[a.at_]
  unfold eAbs eCB zA0 eOp aNil eC
  simp only[e0,Rs.bind_ok,subD,zAd,max2B]
  rfl
 rw[this,List.map_map,List.map_map]
 rfl
theorem zIm {S:Store}{env:Env}(i:Nat) (ns:List Int) (hi:env[i]?=some (some (.lst (ns.map D.int)))) (h:ns.length<=most):zO0 i env S=.ok (.lst ((ns.filter fun x=>decide ((10:Int) ^ 18<=x)).map D.int)) S:=by
 unfold zO0 zAn iVal
 have e0:eVar i env S=.ok (.lst (ns.map D.int)) S:=by unfold eVar;rw[hi]
 rw[e0,Rs.bind_ok,show zC4 S (.lst (ns.map D.int))=some ⟨ns.map D.int,[]⟩from rfl,zAd,Rs.bind_ok]
 have:=zCg (j:=0) (c:=tB (eOp geD (eVar 0) (eOp powD (eC (.int 10)) (eC (.int 18))))) (e:=eVar 0) (f:=id) (p:=fun d=>match d with|.int x=>decide ((10:Int) ^ 18<=x)|_=>false) (S:=S) zB4 (ns.map D.int) 0 (compEnv 1 [] env) (by simp[compEnv]) (by simpa using h) (fun d hd env' a=>by
  obtain⟨x,_,rfl⟩:=ve.mp hd
  have e0:∀S,eVar 0 env' S=.ok (.int x) S:=fun S=>by unfold eVar;rw[a.at_]
  have pw:powD S (.int 10) (.int 18)=some (.int ((10:Int) ^ 18)):=by
   show(if(0:Int)<=18/\(18:Int)<=1000000/\(10:Int).natAbs<2 ^ 64 then some (D.int ((10:Int) ^ (18:Int).toNat))else none)=_
   rw[xb (by decide)];rfl
  unfold tB eOp eC
  simp only[e0,Rs.bind_ok,pw,zAd,geD,asB]) (fun d hd hp env' a=>by
  unfold eVar;rw[a.at_];rfl)
 rw[this,Rs.bind_ok,List.map_id]
 congr 2
 exact List.filter_map
theorem zKk {S:Store}{env:Env}{i j k:Nat}(hij:i≠j) (hik:i≠k) (hjk:j≠k) {ns:List Int}{a0:Int}(h1:env[i]?=some (some (.lst (ns.map D.int)))) (h2:env[j]?=some (some (.int a0))) (hk:k<env.length) (l0:0<=a0) (l1:a0<2147483647):
  ∃env' seed,sFor (iVal (eVar i)) (gName k) (zIz j k) env S=.nx env' S/\env'.length=env.length/\env'[i]?=some (some (.lst (ns.map D.int)))/\env'[j]?=some (some (.int seed))/\0<=seed/\seed<2147483647:=by
 have e0:eVar i env S=.ok (.lst (ns.map D.int)) S:=by unfold eVar;rw[h1]
 obtain⟨env',e1,l2,a2,⟨seed,es,s0,s1⟩,o2⟩:=zI0 (b:=zIz j k) (f:=fun a d=>match a,d with|.int a,.int d=>.int ((a*48271+d % 2147483629) % 2147483647)|a,_=>a) hjk zB4 (I:=fun d=>∃x:Int,d=.int x/\0<=x/\x<2147483647) (ns.map D.int) env (.int a0) h2 hk ⟨a0,rfl,l0,l1⟩ fun d hd env' a hl q1 q2 q3 q4=>by
  obtain⟨x,_,rfl⟩:=ve.mp hd
  obtain⟨y,rfl,y0,y1⟩:=q3
  refine⟨?_,_,rfl,vD _ (by decide),vE _ (by decide)⟩
  have v1:∀S,eVar j env' S=.ok (.int y) S:=fun S=>by unfold eVar;rw[q1]
  have v2:∀S,eVar k env' S=.ok (.int x) S:=fun S=>by unfold eVar;rw[q2]
  unfold zIz sSet eOp eC
  simp only[v1,v2,Rs.bind_ok,Rs.then_ok,zAd,zCs (show sm y/\sm 48271 from⟨zBm y0 (by nofun),zBm (by decide) (by decide)⟩),zB2 (show(0:Int)<2147483629 by decide),addD,zB2 (show(0:Int)<2147483647 by decide)]
 refine⟨env',seed,?_,l2,by rw[o2 i hij hik];exact h1,by rw[a2,es],s0,s1⟩
 unfold sFor iVal
 rw[e0,Rs.bind_ok,show zC4 S (.lst (ns.map D.int))=some ⟨ns.map D.int,[]⟩from rfl,zAd,Rs.then_ok]
 exact e1
theorem zP7 {S:Store}{env:Env}{i j:Nat}{ns:List Int}{seed:Int}(h1:env[i]?=some (some (.lst (ns.map D.int)))) (h2:env[j]?=some (some (.int seed))) (s0:0<=seed) (s1:seed<2147483647) (hl:ns.length<=most):
  ∃S',zJg i j env S=.rt (.ref S.length) S'/\Deal S' S.length (S.length+1)/\S'.length=S.length+2/\∀k,k<S.length->S'[k]?=S[k]?:=by
 have v2:∀S,eVar j env S=.ok (.int seed) S:=fun S=>by unfold eVar;rw[h2]
 have rv:∀S (l:List D),revL S (.lst l)=some (.lst l.reverse):=fun _ _=>rfl
 have lk:((S++[D.dct false [] []])++[D.lst ((ns.filter fun x=>decide ((10:Int) ^ 18<=x)).map D.int).reverse])[S.length]?=some (D.dct false [] []):=by simp
 refine⟨((S++[D.dct false [] []])++[D.lst ((ns.filter fun x=>decide ((10:Int) ^ 18<=x)).map D.int).reverse]).set S.length (.dct false [zBo,kNum,zCd] [.int seed,.int 0,.ref (S++[D.dct false [] []]).length]),?_,?_,?_,?_⟩
 ·unfold zJg sRet zKo eNew eUn zA0 aNil eC
  simp only[v2,Rs.bind_ok,zIm i ns h1 hl,rv,zAd,lk,xj,Rs.then_ok]
 ·refine⟨seed,0,(ns.filter fun x=>decide ((10:Int) ^ 18<=x)).reverse,?_,?_,by nofun,s0,s1⟩
  ·simp[zBr]
  ·simp
 ·simp
 ·intro k hk
  rw[xr (by nofun),xK (by simp;lia),xK hk]
noncomputable def zJ0:SM:=
  (sSeq (sSet 2 (zAn 1 [] (iVal (eSl slD (eVar 0) (pYes (eVar 1)) (pYes (eC (.int 63))))) (gName 0) tYes eAbs))
  (sSeq (sSet 3 (eOp addD (eC (.int 7919)) (eVar 1)))
  (sSeq (sFor (iVal (eVar 2)) (gName 4) (zIz 3 4)) (zJg 2 3))))
theorem zKx {ns:List Int}{lo hi:Option Int}:cutL (ns.map D.int) lo hi=(cutL ns lo hi).map D.int:=by
 unfold cutL
 simp[List.map_drop,List.map_take]
theorem zKw {S:Store}{ns:List Int}(h:ns.length<=63):∃S',zCm 2 5 zJ0 [.klst (ns.map D.int),.int 0] S=.ok (.ref S.length) S'/\Deal S' S.length (S.length+1)/\S'.length=S.length+2/\∀k,k<S.length->S'[k]?=S[k]?:=by
 have hl:((cutL ns (some 0) (some 63)).map absI).length<=most:=by
  have:(cutL ns (some 0) (some 63)).length<=ns.length:=by unfold cutL;rw[x6,List.length_drop];lia
  have m63:63<=most:=by decide
  rw[xE];lia
 have sl:slD S (.klst (ns.map D.int)) (some 0) (some 63)=some (.lst ((cutL ns (some 0) (some 63)).map D.int)):=by
  show some (D.lst (cutL (ns.map D.int) (some 0) (some 63)))=_
  rw[zKx]
 have c1:=zKy (S:=S) (env:=[some (.klst (ns.map D.int)),some (.int 0),none,none,none]) (cutL ns (some 0) (some 63)) (by rw[xE]at hl;exact hl)
 have w1:zC4 S (.lst ((cutL ns (some 0) (some 63)).map D.int))=some ⟨(cutL ns (some 0) (some 63)).map D.int,[]⟩:=rfl
 unfold zCm zJ0
 simp only[xH,vx,Nat.reduceAdd,xj,xt,x4,Nat.reduceSub,List.replicate,List.cons_append,vC]
 obtain⟨env',seed,e1,l1,a1,b1,s0,s1⟩:=zKk (S:=S) (env:=[some (.klst (ns.map D.int)),some (.int 0),some (.lst (((cutL ns (some 0) (some 63)).map absI).map D.int)),some (.int (7919+0)),none]) (i:=2) (j:=3) (k:=4) (by decide) (by decide) (by decide) rfl rfl (by simp) (by decide) (by decide)
 obtain⟨S',e2,d2,l2,o2⟩:=zP7 a1 b1 s0 s1 hl
 refine⟨S',?_,d2,l2,o2⟩
 have st:sSeq (sSet 2 (zAn 1 [] (iVal (eSl slD (eVar 0) (pYes (eVar 1)) (pYes (eC (.int 63))))) (gName 0) tYes eAbs)) (sSeq (sSet 3 (eOp addD (eC (.int 7919)) (eVar 1))) (sSeq (sFor (iVal (eVar 2)) (gName 4) (zIz 3 4)) (zJg 2 3))) [some (.klst (ns.map D.int)),some (.int 0),none,none,none] S=.rt (.ref S.length) S':=by
  simp only[sSeq,sSet,zAn,iVal,eSl,pYes,eC,eOp,eVar,List.getElem?_cons_zero,List.getElem?_cons_succ,Rs.bind_ok,zAd,vK,asI,sl,w1,c1,Rs.then_ok,List.set_cons_zero,List.set_cons_succ,addD]
  simp only[e1,e2]
 rw[st]
end
end DS
namespace DS
open PySem (Str)
noncomputable section
open Classical
noncomputable def BB (k:Nat) (x:Int):Prop:=x.natAbs<2 ^ k
theorem zFs {np nl:Nat}{b:SM}{ds:List D}{S:Store}{d:D}(hl:ds.length=np) (h:b (ds.map some++List.replicate (nl-np) none) S=.rt d S) (hd:d.low S.length=true):zAt np nl b ds S=.ok d S:=by
 unfold zAt
 rw[xb hl,h]
 exact zKl hd
end
end DS
namespace DS
open PySem (Str)
noncomputable section
open Classical
structure Grow (n m:Nat) (S S':Store):Prop where
 len:S.length<=S'.length
 at_:∀k,k<S.length->k≠n->k≠m->S'[k]?=S[k]?
section
variable {n m:Nat}{S S' S'':Store}
theorem Grow.trans (a:Grow n m S S') (b:Grow n m S' S''):Grow n m S S'':=⟨xq a.len b.len,fun k h h1 h2=>(b.at_ k (xn h a.len) h1 h2).trans (a.at_ k h h1 h2)⟩
theorem Only.grow (a:Only n m S S'):Grow n m S S':=⟨by rw[a.len];exact xh _,fun k _ h1 h2=>a.at_ k h1 h2⟩
theorem Grow.app (T:Store):Grow n m S (S++T):=⟨by simp,fun k h _ _=>xK h⟩
theorem Grow.set {c:Nat}{d:D}(a:Grow n m S S') (h:S.length<=c):Grow n m S (S'.set c d):=⟨by simpa using a.len,fun k hk h1 h2=>by rw[xr (by nofun)];exact a.at_ k hk h1 h2⟩
theorem Deal.lt (h:Deal S n m):n<S.length/\m<S.length:=by
 obtain⟨_,_,_,h⟩:=h
 exact⟨h.lt,h.ltm⟩
theorem Deal.app (h:Deal S n m) (T:Store):Deal (S++T) n m:=by
 have l:=h.lt
 obtain⟨a,b,c,h⟩:=h
 exact⟨a,b,c,⟨by rw[xK l.1];exact h.d,by rw[xK l.2];exact h.l,h.ne,h.lo,h.hi⟩⟩
theorem Deal.set {k:Nat}{d:D}(h:Deal S n m) (h1:k≠n) (h2:k≠m):Deal (S.set k d) n m:=by
 obtain⟨a,b,c,h⟩:=h
 exact⟨a,b,c,⟨by rw[xr h1];exact h.d,by rw[xr h2];exact h.l,h.ne,h.lo,h.hi⟩⟩
theorem zDw {n:Nat}:∀{S S':Store},S.length<=S'.length->(∀(i:Nat) (d:D),i<S.length->S'[i]?=some d->S[i]?=some d\/d.low n=true)->keeps n S S'
 | [],_,_,_=>trivial
 | a::r,[],e,_=>by simp at e
 | a::r,b::t,e,h=>⟨by
   rcases h 0 b (by simp) rfl with q|q
   ·exact .inl (by simpa using q)
   ·exact .inr q,zDw (by simpa using e) fun i d hi q=>by simpa using h (i+1) d (by simpa using hi) (by simpa using q)⟩
theorem zKm {d:D}(h:Deal S n m) (h':Deal S' n m) (g:Grow n m S S') (hd:d.low S.length=true):∃S'',fin S d S'=.ok d S''/\Deal S'' n m/\Only n m S S'':=by
 have l:=h.lt
 refine⟨S'.take S.length,?_,?_,?_⟩
 ·unfold fin
  rw[xb,xb hd]
  refine zDw g.len fun i e hi he=>?_
  obtain⟨_,_,_,h'⟩:=h'
  by_cases h1:i=n
  ·subst h1;rw[h'.d]at he;cases he;exact .inr (zFc l.2)
  ·by_cases h2:i=m
   ·subst h2;rw[h'.l]at he;cases he;exact .inr (low_ints _)
   ·rw[g.at_ i hi h1 h2]at he;exact .inl he
 ·obtain⟨a,b,c,h'⟩:=h'
  exact⟨a,b,c,⟨by rw[vi l.1];exact h'.d,by rw[vi l.2];exact h'.l,h'.ne,h'.lo,h'.hi⟩⟩
 ·refine⟨by rw[x6];have:=g.len;lia,fun k h1 h2=>?_⟩
  by_cases hk:k<S.length
  ·rw[vi hk];exact g.at_ k hk h1 h2
  ·rw[x9 (by rw[x6];lia),x9 (by nofun)]
theorem zGm {np nl:Nat}{b:SM}{ds:List D}{d:D}(hl:ds.length=np) (h:b (ds.map some++List.replicate (nl-np) none) S=.rt d S') (h0:Deal S n m) (h1:Deal S' n m) (o:Grow n m S S') (hd:d.low S.length=true):∃S'',zAt np nl b ds S=.ok d S''/\Deal S'' n m/\Only n m S S'':=by
 obtain⟨S'',e,a,b'⟩:=zKm h0 h1 o hd
 refine⟨S'',?_,a,b'⟩
 unfold zAt
 rw[xb hl,h]
 exact e
end
theorem zJc {k:Int}(h0:0<=k) (h:k<1000000):zDb [.int k]=some ⟨(List.range k.toNat).map fun(i:Nat)=>.int (i:Int),[]⟩:=by
 show(if fits62 k=true then some (Walk.mk (zCq 0 k) [])else none)=_
 rw[xb (by unfold fits62;exact xD ⟨by nofun,by nofun⟩)]
 unfold zCq
 simp
end
end DS
namespace DS
noncomputable section
open Classical
theorem zIo {α β:Type}{h:α->D}{k:β->D}{gd:List (Nat × D)}{g:GM}{e:EM}{I:Env->Prop}{J:Store->Prop}{P:β->Prop}(hg:∀S,J S->gOk S gd):∀(xs:List α) (c:Nat) (env:Env) (S:Store),I env->J S->c+xs.length<=most->
  (∀a∈xs,∀env S,I env->J S->∃env' b S',g S (h a) env=some env'/\I env'/\e env' S=.ok (k b) S'/\P b/\J S')->∃(bs:List β) (S':Store),zAz gd g tYes e c (xs.map h) env S=.ok (bs.map k) S'/\bs.length=xs.length/\(∀b∈bs,P b)/\J S'
 | [],c,env,S,_,hj,_,_=>⟨[],S,by rw[x4,zAz,xb (hg S hj)];rfl,rfl,(fun b hb=>nomatch hb),hj⟩
 | a::xs,c,env,S,hi,hj,hk,he=>by
  have hk':c+(xs.length+1)<=most:=hk
  obtain⟨env',b,S1,e1,i1,e2,p,j1⟩:=he a (.head _) env S hi hj
  obtain⟨bs,S2,e3,l3,p3,j3⟩:=zIo hg xs (c+1) env' S1 i1 j1 (by nofun) fun a ha=>he a (.tail _ ha)
  refine⟨b::bs,S2,?_,by simp[l3],fun z hz=>?_,j3⟩
  ·rw[xt,zAz,xb ⟨hg S hj,by nofun⟩,e1]
   show(tYes env' S).bind _=_
   rw[tYes,Rs.bind_ok,xb rfl,e2,Rs.bind_ok,e3,Rs.bind_ok]
   rfl
  ·rcases xC.mp hz with rfl|z
   ·exact p
   ·exact p3 _ z
theorem zO1 {α β:Type}{h:α->D}{k:β->D}{own:Nat}{ix:List Nat}{i:IM}{gd:List (Nat × D)}{g:GM}{e:EM}{S S0:Store}{env:Env}{xs:List α}(I:Env->Prop) (J:Store->Prop) (P:β->Prop) (hi:i env S0=.ok ⟨xs.map h,gd⟩ S) (hg:∀S,J S->gOk S gd) (h0:I (compEnv own ix env)) (j0:J S) (hk:xs.length<=most)
  (he:∀a∈xs,∀env S,I env->J S->∃env' b S',g S (h a) env=some env'/\I env'/\e env' S=.ok (k b) S'/\P b/\J S'):∃(bs:List β) (S':Store),zAn own ix i g tYes e env S0=.ok (.lst (bs.map k)) S'/\bs.length=xs.length/\(∀b∈bs,P b)/\J S':=by
 obtain⟨bs,S',e1,l1,p1,j1⟩:=zIo hg xs 0 _ S h0 j0 (by nofun) he
 refine⟨bs,S',?_,l1,p1,j1⟩
 rw[zAn,hi,Rs.bind_ok]
 rw[e1,Rs.bind_ok]
theorem zI1 {α:Type}{h:α->D}{gd:List (Nat × D)}{g:GM}{b:SM}(I:Env->Store->Prop) (hg:∀env S,I env S->gOk S gd):∀(xs:List α) (env:Env) (S:Store),I env S->
  (∀a∈xs,∀env S,I env S->∃env' env'' S',g S (h a) env=some env'/\b env' S=.nx env'' S'/\I env'' S')->∃env' S',forL gd g b (xs.map h) env S=.nx env' S'/\I env' S'
 | [],env,S,hi,_=>⟨env,S,by rw[x4,forL,xb (hg env S hi)],hi⟩
 | a::xs,env,S,hi,he=>by
  obtain⟨env',env'',S1,e1,e2,e3⟩:=he a (.head _) env S hi
  obtain⟨e4,S2,e5,e6⟩:=zI1 I hg xs env'' S1 e3 fun b hb=>he b (.tail _ hb)
  refine⟨e4,S2,?_,e6⟩
  rw[xt,forL,xb (hg env S hi),e1]
  dsimp only
  rw[e2]
  exact e5
section
variable {n m c:Nat}{S S' S0:Store}{d:D}
theorem ty_D {l:List D}(h:S[c]?=some (.lst l)):tyD S (.ref c)=some "list":=by unfold tyD;rw[show look S (.ref c)=_ from h]
structure MkD (n m:Nat) (S0:Store) (c:Nat) (l:List D) (S:Store):Prop where
 deal:Deal S n m
 grow:Grow n m S0 S
 at_:S[c]?=some (.lst l)
 far:S0.length<=c
theorem MkD.draw {l:List D}(h0:Deal S0 n m) (h:MkD n m S0 c l S) (d:Deal S' n m) (o:Only n m S S'):MkD n m S0 c l S':=by
 have l0:=h0.lt
 have:=h.far
 exact⟨d,h.grow.trans o.grow,by rw[o.at_ c (by nofun) (by nofun)];exact h.at_,h.far⟩
theorem MkD.add {l:List D}(h0:Deal S0 n m) (h:MkD n m S0 c l S) (d:D):MkD n m S0 c (l++[d]) (S.set c (.lst (l++[d]))):=by
 have l0:=h0.lt
 have:=h.far
 exact⟨h.deal.set (by nofun) (by nofun),h.grow.set h.far,by rw[xF (xu.mp h.at_).1],h.far⟩
theorem MkD.new (h0:Deal S0 n m) (d:Deal S n m) (g:Grow n m S0 S) (l:List D):MkD n m S0 S.length l (S++[.lst l]):=⟨d.app _,g.trans (.app _),by simp,g.len⟩
end
end
end DS
namespace DS
noncomputable section
open Classical
theorem zDx {n:Nat}:∀(S T:Store),keeps n S (S++T)
 | [],_=>trivial
 | a::S,T=>⟨.inl rfl,zDx S T⟩
theorem zGl {np nl:Nat}{b:SM}{ds:List D}{S T:Store}{d:D}(hl:ds.length=np) (h:b (ds.map some++List.replicate (nl-np) none) S=.rt d (S++T)) (lo:d.low S.length=true):zAt np nl b ds S=.ok d S:=by
 unfold zAt
 rw[xb hl,h]
 dsimp only
 unfold fin
 rw[xb (zDx S T),xb lo,List.take_left]
theorem zLr {α:Type}{h f:α->D}{gd:List (Nat × D)}{g:GM}{e:EM}{S:Store}{I:Env->Prop}(hg:gOk S gd):∀(xs:List α) (k:Nat) (env:Env),I env->k+xs.length<=most->
  (∀a∈xs,∀env,I env->∃env',g S (h a) env=some env'/\I env'/\e env' S=.ok (f a) S)->zAz gd g tYes e k (xs.map h) env S=.ok (xs.map f) S
 | [],k,env,_,_,_=>by rw[x4,zAz,xb hg];rfl
 | a::xs,k,env,hi,hk,he=>by
  have hk':k+(xs.length+1)<=most:=hk
  obtain⟨env',e1,e2,e3⟩:=he a (.head _) env hi
  rw[xt,zAz,xb ⟨hg,by nofun⟩,e1]
  dsimp only
  rw[tYes,Rs.bind_ok,xb rfl,e3,Rs.bind_ok,zLr hg xs (k+1) env' e2 (by nofun) fun b hb=>he b (.tail _ hb),Rs.bind_ok]
  rfl
theorem zIa {α:Type}{h f:α->D}{own:Nat}{ix:List Nat}{i:IM}{gd:List (Nat × D)}{g:GM}{e:EM}{S:Store}{env:Env}{xs:List α}(I:Env->Prop) (hi:i env S=.ok ⟨xs.map h,gd⟩ S) (hg:gOk S gd) (h0:I (compEnv own ix env)) (hk:xs.length<=most)
  (he:∀a∈xs,∀env,I env->∃env',g S (h a) env=some env'/\I env'/\e env' S=.ok (f a) S):zAn own ix i g tYes e env S=.ok (.lst (xs.map f)) S:=by
 rw[zAn,hi,Rs.bind_ok]
 rw[zLr hg xs 0 _ h0 (by nofun) he,Rs.bind_ok]
end
end DS
namespace DP
open DS TX
open PySem (Str PyData)
noncomputable section
open Classical
theorem zAi {a b:SM}{env e:Env}{S S1:Store}{r:SR}(h:a env S=.nx e S1) (h':b e S1=r):sSeq a b env S=r:=by rw[sSeq,h];exact h'
theorem zE8 {α:Type}{p:α->Bool}:∀l:List α,bools (l.map fun x=>D.bl (p x))=some (l.map p)
 | []=>rfl
 | a::l=>by
  have:=zE8 (p:=p) l
  show(bools (l.map fun x=>D.bl (p x))).map (p a::·)=_
  rw[this];rfl
theorem zRj {α:Type}{S:Store}{p:α->Prop}[DecidablePred p] (l:List α) [Decidable (∀x∈l,p x)]:allB S [.lst (l.map fun x=>.bl (decide (p x)))]=some (.bl (decide (∀x∈l,p x))):=by
 show((bools (l.map fun x=>D.bl (decide (p x)))).map fun bs=>D.bl (bs.all id))=_
 rw[zE8]
 show some (D.bl _)=_
 congr 2
 rw[vn,xI,decide_eq_true_iff]
 simp
theorem zQi {t:TM}{a b:SM}{env:Env}{S:Store}{q:SR}(h:t env S=.ok false S) (h2:b env S=q):sIf t a b env S=q:=by
 rw[sIf,h,Rs.then_ok,xc (by decide)];exact h2
theorem zJ3 {S:Store}{l:List D}:zC4 S (.tup l)=some ⟨l,[]⟩:=rfl
theorem zNs {e:EM}{env:Env}{S:Store}{l:List D}(h:e env S=.ok (.tup l) S):iVal e env S=.ok ⟨l,[]⟩ S:=by rw[iVal,h,Rs.bind_ok,zJ3];rfl
theorem drawn {S:Store}{n m:Nat}{many:Int}(hm:0<many) (h9:many<2147483648) (h:Deal S n m):∃(r:Int) (S':Store),zA1 [.ref n,.int many] S=.ok (.int r) S'/\0<=r/\r<many/\Deal S' n m/\Only n m S S':=zId hm (zBm (by nofun) h9) h
theorem zB5 {S:Store}{n:Nat}{many:Int}{i:Nat}{env:Env}{r:Rs D}(h:env[i]?=some (some (.ref n))) (e:zA1 [.ref n,.int many] S=r):zA8 zA1 (zA0 (eVar i) (zA0 (eC (.int many)) aNil)) env S=r:=by
 simp_arith [h]
 exact e
theorem zM8 {n:Nat}(h:n<=1000):zDb [.int (n:Nat)]=some ⟨(List.range n).map fun(i:Nat)=>.int (i:Int),[]⟩:=by
 obtain⟨k,hk⟩:∃k:Int,k=(n:Int):=⟨_,rfl⟩
 rw[<- hk,zJc (by nofun) (by nofun),show k.toNat=n by nofun]
theorem zBj {e:EM}{env:Env}{S S':Store}{n:Nat}(h:e env S=.ok (.int (n:Nat)) S') (hn:n<=1000):zB3 (zA0 e aNil) env S=.ok ⟨(List.range n).map fun(i:Nat)=>.int (i:Int),[]⟩ S':=by
 unfold zB3 zA0 aNil
 rw[h,Rs.bind_ok,Rs.bind_ok,Rs.bind_ok,zM8 hn]
 rfl
theorem zNx {v:Bool}{S:Store}:fin [] (.bl v) S=.ok (.bl v) []:=by
 unfold fin
 rw[xb (show keeps ([]:Store).length [] S from trivial),xb (show(D.bl v).low ([]:Store).length=true from rfl)]
 rfl
theorem zCn {e:EM}{env:Env}{S S1:Store}{d:D}(h:e env S=.ok d S1):zA0 e aNil env S=.ok [d] S1:=by rw[zA0,h];rfl
theorem zNm {S:Store}{sep:Str}{ys:List Str}(h1:sep.length<=16) (h2:(ys.map fun y:Str=>y.length).sum+ys.length<=1048576):joinM S (.str sep) [.lst (ys.map D.str)]=some (.str (PySem.Txt.join sep ys),S):=by
 show(match strsOf (ys.map D.str)with|some ys=>if sep.length<=16/\(ys.map fun y:Str=>y.length).sum+ys.length<=1048576 then some (D.str (PySem.Txt.join sep ys),S)else none|none=>none)=_
 rw[zCo]
 show(if sep.length<=16/\(ys.map fun y:Str=>y.length).sum+ys.length<=1048576 then some (D.str (PySem.Txt.join sep ys),S)else none)=_
 rw[xb ⟨h1,h2⟩]
theorem zB1 {g:Store->D->D->Option D}{a b:EM}{env:Env}{S S1 S2:Store}{x y z:D}(ha:a env S=.ok x S1) (hb:b env S1=.ok y S2) (hg:g S2 x y=some z):eOp g a b env S=.ok z S2:=by
 rw[eOp,ha,Rs.bind_ok,hb,Rs.bind_ok,hg];rfl
theorem zAp {env:Env}{S:Store}{i:Nat}{d:D}(h:env[i]?=some (some d)):eVar i env S=.ok d S:=by unfold eVar;rw[h]
theorem zH4 {e:EM}{env:Env}{S S1:Store}{d:D}(h:e env S=.ok d S1):sRet e env S=.rt d S1:=by rw[sRet,h];rfl
theorem zRf {g:Store->List D->Option D}{e:EM}{env:Env}{S S1:Store}{d z:D}(h:e env S=.ok d S1) (hg:g S1 [d]=some z):eCB g (zA0 e aNil) env S=.ok z S1:=by rw[eCB,zCn h,Rs.bind_ok,hg];rfl
theorem zSe {S:Store}{n m:Nat}{many:Int}(hm:0<many) (h9:many<10000000000000000000000000000000000000000) (h:Deal S n m):∃(r:Int) (S':Store),zA1 [.ref n,.int many] S=.ok (.int r) S'/\0<=r/\r<many/\Deal S' n m/\Only n m S S':=zId hm (zP3 (by have:=h9;lia) (by have:=h9;lia)) h
theorem zEy {S:Store}{c:Nat}{l:List D}{d:D}(h:S[c]?=some (.lst l)) (hl:l.length<=200000):zAu S (.ref c) [d]=some (.non,S.set c (.lst (l++[d]))):=by
 unfold zAu
 simp only[h]
 rw[xb (vz hl (by decide))]
theorem zJ1 {S:Store}{d:D}:(S++[d])[S.length]?=some d:=by simp
theorem zM6 {S:Store}{d e:D}:(S++[d]).set S.length e=S++[e]:=by simp
noncomputable abbrev sgn (c:Nat):Str:=⟨#[c]⟩
theorem zS9 {S:Store}{z:Str}{i:Int}(hz:z.length<=100000) (h0:0<=i) (h9:i<z.length):∃c,c∈ls z/\ixD S (.str z) (.int i)=some (.str (sgn c)):=by
 have hl:i.toNat<(ls z).length:=by rw[<- zFe];lia
 refine⟨(ls z)[i.toNat],List.getElem_mem hl,?_⟩
 show(if z.length<=most then(atL (ls z) i).map fun c=>D.str ⟨#[c]⟩else none)=_
 rw[xb (xq hz (by decide))]
 have:atL (ls z) i=some (ls z)[i.toNat]:=by
  unfold atL ixN
  rw[xb h0,xb (by rw[<- zFe];exact h9)]
  exact xp hl
 rw[this]
 rfl
end
end DP
namespace DP
open DS TX
open PySem (Str PyData)
noncomputable section
open Classical
noncomputable def Th:D->Prop
 | .int i=>i.natAbs<=10 ^ 30
 | .non=>True
 | .bl _=>True
 | .str x=>(ls x).length<=10/\∀c∈ls x,c<128
 | .tup [.int a,.int b]=>a.natAbs<=9/\b.natAbs<=9
 | _=>False
theorem Th.low {d:D}(h:Th d) {k:Nat}:d.low k=true:=by
 unfold Th at h
 split at h
 ·rfl
 ·rfl
 ·rfl
 ·rfl
 ·rfl
 ·exact h.elim
theorem shown_int {i:Int}(h:i.natAbs<=10 ^ 30):(Str.ofString (toString i)).length<=40:=by
 have hl:=zLn 31 i.natAbs (by decide) (vz h (by decide))
 rw[zFe,zS6]
 unfold nm
 split
 ·rw[xH];lia
 ·lia
theorem zEm {i:Int}(h:i.natAbs<=10 ^ 30):i.natAbs.log2<1920:=by
 have:i.natAbs<2 ^ 100:=vz h (by decide)
 by_cases z:i.natAbs=0
 ·rw[z];decide
 ·exact Nat.lt_trans ((Nat.log2_lt z).mpr this) (by decide)
theorem zS1 {d:D}(h:Th d):∃p,pdM d=some p/\p.showable=true/\p.depth<=1/\p.shown.length<=200:=by
 unfold Th at h
 split at h
 ·rename_i i
  exact⟨.int i,by unfold pdM;rfl,xD (zEm h),xW _,xq (shown_int h) (by decide)⟩
 ·exact⟨.none,by unfold pdM;rfl,rfl,xW _,by decide⟩
 ·rename_i b
  exact⟨.bool b,by unfold pdM;rfl,rfl,xW _,by cases b <;> decide⟩
 ·rename_i x
  have z:=PySem.StrLaws.reprText_len x (fun c hc=>xn (h.2 c hc) (by decide))
  have:x.length<=10:=by rw[zFe];exact h.1
  exact⟨.str x,by unfold pdM;rfl,rfl,xW _,by show(PySem.reprText x).length<=200;lia⟩
 ·rename_i a b
  have ha:=shown_int (i:=a) (xq h.1 (by decide))
  have hb:=shown_int (i:=b) (xq h.2 (by decide))
  refine⟨.tuple [.int a,.int b],by unfold pdM pdsM pdsM pdsM pdM;rfl,?_,xh 1,?_⟩
  ·show(decide (a.natAbs.log2<1920) && (decide (b.natAbs.log2<1920) && true))=true
   rw[xD (zEm (xq h.1 (by decide))),xD (zEm (xq h.2 (by decide)))]
   rfl
  ·show(Str.ofString "("++(Str.ofString (toString a)++Str.ofString ", "++Str.ofString (toString b))++Str.ofString ")").length<=200
   rw[xR,xR,xR,xR]
   show 1+((Str.ofString (toString a)).length+2+(Str.ofString (toString b)).length)+1<=200
   lia
 ·exact h.elim
theorem repr3 {d:D}(h:Th d):∃r:Str,∀S,zEh S [.lst [d,d,d]]=some (.str r):=by
 obtain⟨p,e,s1,s2,s3⟩:=zS1 h
 have ep:pdM (.lst [d,d,d])=some (.list [p,p,p]):=by
  unfold pdM pdsM pdsM pdsM pdsM
  rw[e]
  rfl
 refine⟨(PyData.list [p,p,p]).shown,fun S=>?_⟩
 show(match pdM (.lst [d,d,d])with|some p=>if p.showable=true/\p.depth<=60/\p.shown.length<=most then some (D.str p.shown)else none|none=>none)=_
 rw[ep]
 refine xb ⟨?_,?_,?_⟩
 ·show(p.showable && (p.showable && (p.showable && true)))=true
  rw[s1];rfl
 ·show max p.depth (max p.depth (max p.depth 0))+1<=60
  lia
 ·show((((Str.ofString "["++Str.ofString ""++p.shown)++Str.ofString ", "++p.shown)++Str.ofString ", "++p.shown)++Str.ofString "]").length<=most
  rw[xR,xR,xR,xR,xR,xR,xR]
  show 1+0+p.shown.length+2+p.shown.length+2+p.shown.length+1<=most
  exact xq (show _<=1000 by nofun) (by decide)
end
end DP
namespace DP
open DS TX
open PySem (Str PyData)
noncomputable section
open Classical
theorem zBx {g:Int->Option Bool}{C:Nat}{l:List D}{b:Bool}{env:Env}{S:Store}{i:Nat}(h:env[i]?=some (some (.st (.int (C:Nat)::l)))) (e:g (C:Int)=some b):eIsX g (eVar i) env S=.ok (.bl b) S:=by
 unfold eIsX
 rw[zAp h,Rs.bind_ok]
 show lift ((g (C:Int)).map D.bl) S=_
 rw[e];rfl
noncomputable def Kl (C k:Nat):Prop:=C=44/\k=0\/C=63/\k=1\/C=82/\k=2\/C=94/\k=3\/C=106/\k=4
noncomputable abbrev bs5 (k:Nat):List D:=(List.range 5).map fun(i:Nat)=>.bl (decide (((i:Nat):Int)=((k:Nat):Int)))
theorem zLt {C k:Nat}(h:Kl C k):bs5 k=[.bl (decide (C=44)),.bl (decide (C=63)),.bl (decide (C=82)),.bl (decide (C=94)),.bl (decide (C=106))]:=by
 rcases h with⟨rfl,rfl⟩|⟨rfl,rfl⟩|⟨rfl,rfl⟩|⟨rfl,rfl⟩|⟨rfl,rfl⟩ <;> rfl
noncomputable abbrev tA:List (Nat × Bool):=[(106,true),(44,true),(63,true),(94,true),(82,true)]
noncomputable abbrev t0:List (Nat × Bool):=[(106,false),(44,true),(63,false),(94,false),(82,false)]
noncomputable abbrev t1:List (Nat × Bool):=[(106,false),(44,false),(63,true),(94,false),(82,false)]
noncomputable abbrev t2:List (Nat × Bool):=[(106,false),(44,false),(63,false),(94,false),(82,true)]
noncomputable abbrev t3:List (Nat × Bool):=[(106,false),(44,false),(63,false),(94,true),(82,false)]
noncomputable abbrev t4:List (Nat × Bool):=[(106,true),(44,false),(63,false),(94,false),(82,false)]
theorem zQ7 {C k:Nat}(h:Kl C k):lkC tA (C:Int)=some true/\lkC t0 (C:Int)=some (decide (C=44))/\lkC t1 (C:Int)=some (decide (C=63))/\lkC t2 (C:Int)=some (decide (C=82))/\lkC t3 (C:Int)=some (decide (C=94))/\lkC t4 (C:Int)=some (decide (C=106)):=by
 rcases h with⟨rfl,rfl⟩|⟨rfl,rfl⟩|⟨rfl,rfl⟩|⟨rfl,rfl⟩|⟨rfl,rfl⟩ <;> decide
theorem zEe {a b:EM}{env:Env}{S:Store}{x y:D}(ha:a env S=.ok x S) (hb:b env S=.ok y S):zA0 a (zA0 b aNil) env S=.ok [x,y] S:=by rw[zA0,ha,Rs.bind_ok,zCn hb];rfl
theorem zBv {am:AM}{env:Env}{S S1:Store}{ds:List D}(h:am env S=.ok ds S1) (hz:ds.length<=100):eLst am env S=.ok (.lst ds) S1:=by
 rw[eLst,h,Rs.bind_ok]
theorem zLb {e:EM}{env:Env}{S S1:Store}{d:D}(h:e env S=.ok d S1):eNew e env S=.ok (.ref S1.length) (S1++[d]):=by rw[eNew,h];rfl
theorem zF5 {S:Store}{C k:Nat}{l:List D}(h:Kl C k):zA9 [.st (.int (C:Nat)::l)] S=.ok (.lst ([.bl true,.bl true]++bs5 k)) S:=by
 obtain⟨kA,k0,k1,k2,k3,k4⟩:=zQ7 h
 obtain⟨x,ex⟩:∃x,x=D.st (.int (C:Nat)::l):=⟨_,rfl⟩
 have v:∀o:Option D,([some x,o]:Env)[0]?=some (some (.st (.int (C:Nat)::l))):=fun o=>by rw[ex];rfl
 rw[zLt h,<- ex]
 obtain⟨S1,e1⟩:∃S1,S1=S++[D.lst [.bl true,.bl true]]:=⟨_,rfl⟩
 have s1:sSet 1 (eNew (eLst (zA0 (eIsX (lkC tA) (eVar 0)) (zA0 (eIsX (lkC tA) (eVar 0)) aNil)))) [some x,none] S=.nx [some x,some (.ref S.length)] S1:=by
  rw[sSet,zLb (zBv (zEe (zBx (v _) kA) (zBx (v _) kA)) (by decide)),e1]
  rfl
 have at1:S1[S.length]?=some (.lst [.bl true,.bl true]):=by rw[e1];exact zJ1
 have c1:eOp catD (eVar 1) (eLst (zA0 (eIsX (lkC t0) (eVar 0)) (zA0 (eIsX (lkC t1) (eVar 0)) aNil))) [some x,some (.ref S.length)] S1=.ok (.lst [.bl true,.bl true,.bl (decide (C=44)),.bl (decide (C=63))]) S1:=by
  refine zB1 (x:=.ref S.length) rfl (zBv (zEe (zBx (v _) k0) (zBx (v _) k1)) (by simp)) ?_
  unfold catD
  rw[show litems S1 (.ref S.length)=some [.bl true,.bl true] by unfold litems;simp only[show look S1 (.ref S.length)=_ from at1]]
  rfl
 obtain⟨S2,e2⟩:∃S2,S2=S1++[D.lst [.bl true,.bl true,.bl (decide (C=44)),.bl (decide (C=63))]]:=⟨_,rfl⟩
 have s2:sSet 1 (eNew (eOp catD (eVar 1) (eLst (zA0 (eIsX (lkC t0) (eVar 0)) (zA0 (eIsX (lkC t1) (eVar 0)) aNil))))) [some x,some (.ref S.length)] S1=.nx [some x,some (.ref S1.length)] S2:=by
  rw[sSet,zLb c1,e2]
  rfl
 have at2:S2[S1.length]?=some (.lst [.bl true,.bl true,.bl (decide (C=44)),.bl (decide (C=63))]):=by rw[e2];exact zJ1
 have ap:=zEy (d:=.bl (decide (C=82))) at2 (by simp)
 obtain⟨S3,e3⟩:∃S3,S3=S1++[D.lst [.bl true,.bl true,.bl (decide (C=44)),.bl (decide (C=63)),.bl (decide (C=82))]]:=⟨_,rfl⟩
 have es:S2.set S1.length (.lst ([.bl true,.bl true,.bl (decide (C=44)),.bl (decide (C=63))]++[.bl (decide (C=82))]))=S3:=by rw[e2,e3,zM6];rfl
 rw[es]at ap
 have s3:zC8 (eMt "list" zAu (eVar 1) (zA0 (eIsX (lkC t2) (eVar 0)) aNil)) [some x,some (.ref S1.length)] S2=.nx [some x,some (.ref S1.length)] S3:=by
  rw[zC8,eMt,zAp (d:=.ref S1.length) rfl,Rs.bind_ok,xb (ty_D at2),zCn (zBx (v _) k2),Rs.bind_ok,ap]
  rfl
 have at3:S3[S1.length]?=some (.lst [.bl true,.bl true,.bl (decide (C=44)),.bl (decide (C=63)),.bl (decide (C=82))]):=by rw[e3];exact zJ1
 have c2:eOp addD (eVar 1) (eLst (zA0 (eIsX (lkC t3) (eVar 0)) (zA0 (eIsX (lkC t4) (eVar 0)) aNil))) [some x,some (.ref S1.length)] S3=.ok (.lst [.bl true,.bl true,.bl (decide (C=44)),.bl (decide (C=63)),.bl (decide (C=82)),.bl (decide (C=94)),.bl (decide (C=106))]) S3:=by
  refine zB1 (x:=.ref S1.length) rfl (zBv (zEe (zBx (v _) k3) (zBx (v _) k4)) (by simp)) ?_
  show(match litems S3 (.ref S1.length),litems S3 (.lst [.bl (decide (C=94)),.bl (decide (C=106))])with|some l,some m=>if l.length+m.length<=most then some (D.lst (l++m))else none|_,_=>none)=_
  rw[show litems S3 (.ref S1.length)=some [.bl true,.bl true,.bl (decide (C=44)),.bl (decide (C=63)),.bl (decide (C=82))] by unfold litems;simp only[show look S3 (.ref S1.length)=_ from at3]]
  rfl
 refine zGl (T:=[.lst [.bl true,.bl true],.lst [.bl true,.bl true,.bl (decide (C=44)),.bl (decide (C=63)),.bl (decide (C=82))]]) rfl ?_ rfl
 refine zAi s1 (zAi s2 (zAi s3 ?_))
 rw[zH4 c2,e3,e1]
 simp
theorem zLj {S:Store}{k:Nat}:zAb [.int (k:Nat)] S=.ok (.lst ([.bl true,.bl true]++bs5 k)) S:=by
 refine zFs rfl ?_ ?_
 ·have c:(zAn 1 [0] (zB3 (zA0 (eC (.int 5)) aNil)) (gName 0) tYes (eOp eqI (eVar 0) (eVar 1))) [some (.int (k:Nat))] S=.ok (.lst (bs5 k)) S:=by
   refine zIa (xs:=List.range 5) (h:=fun(i:Nat)=>.int (i:Int)) (gd:=[]) (fun env=>∃o,env=[o,some (.int (k:Nat))]) (zBj (n:=5) rfl (by decide)) zB4 ⟨none,rfl⟩ (by decide) ?_
   rintro i hi env ⟨o,rfl⟩
   exact⟨[some (.int (i:Int)),some (.int (k:Nat))],rfl,⟨_,rfl⟩,zB1 rfl rfl rfl⟩
  exact zH4 (zB1 (zBv (ds:=[.bl true,.bl true]) (zEe rfl rfl) (by decide)) c rfl)
 ·show lowL _ ([.bl true,.bl true]++bs5 k)=true
  rfl
end
end DP
namespace DP
open DS TX
open PySem (Str PyData)
noncomputable section
open Classical
noncomputable abbrev rM:EM:=(eIf (neR (tB (eOp eqI (eVar 0) (eC (.int 0))))) (eExc (mkX 44 (PySem.Str.ofString "name")) (neR (zA0 (eVar 1) aNil))) (eIf (neR (tB (eOp eqI (eVar 0) (eC (.int 1))))) (eExc (mkX 63 (PySem.Str.ofString "row")) (neR (zA0 (eVar 1) aNil))) (eIf (neR (tB (eOp eqI (eVar 0) (eC (.int 2))))) (eExc (mkX 82 (PySem.Str.ofString "many")) (neR (zA0 (eVar 1) aNil))) (eIf (neR (tB (eOp eqI (eVar 0) (eC (.int 3))))) (eExc (mkX0 94) aNil) (eExc (mkX0 106) aNil)))))
theorem zRr {S:Store}{k:Nat}{d:D}(hk:k<5) {o2 o3:Option D}:∃(C:Nat) (l:List D),Kl C k/\rM [some (.int (k:Nat)),some d,o2,o3] S=.ok (.st (.int (C:Nat)::l)) S:=by
 rcases(show k=0\/k=1\/k=2\/k=3\/k=4 by nofun)with rfl|rfl|rfl|rfl|rfl
 ·exact⟨44,_,.inl ⟨rfl,rfl⟩,rfl⟩
 ·exact⟨63,_,.inr (.inl ⟨rfl,rfl⟩),rfl⟩
 ·exact⟨82,_,.inr (.inr (.inl ⟨rfl,rfl⟩)),rfl⟩
 ·exact⟨94,_,.inr (.inr (.inr (.inl ⟨rfl,rfl⟩))),rfl⟩
 ·exact⟨106,_,.inr (.inr (.inr (.inr ⟨rfl,rfl⟩))),rfl⟩
noncomputable abbrev rS:SM:=neS (sSeq (sSet 2 (eLst (zA0 (eIsX (lkC t0) (eVar 3)) (zA0 (eIsX (lkC t1) (eVar 3)) (zA0 (eIsX (lkC t2) (eVar 3)) aNil)))))
  (sSet 2 (eOp addD (eVar 2) (eLst (zA0 (eIsX (lkC t3) (eVar 3)) (zA0 (eIsX (lkC t4) (eVar 3)) aNil))))))
theorem zRq {S:Store}{C k:Nat}{l:List D}(h:Kl C k) {a b o:Option D}{x:D}(ex:x=D.st (.int (C:Nat)::l)):rS [a,b,o,some x] S=.nx [a,b,some (.lst (bs5 k)),some x] S:=by
 obtain⟨kA,k0,k1,k2,k3,k4⟩:=zQ7 h
 have v:∀o:Option D,([a,b,o,some x]:Env)[3]?=some (some (.st (.int (C:Nat)::l))):=fun o=>by rw[ex];rfl
 rw[zLt h]
 have c1:eLst (zA0 (eIsX (lkC t0) (eVar 3)) (zA0 (eIsX (lkC t1) (eVar 3)) (zA0 (eIsX (lkC t2) (eVar 3)) aNil))) [a,b,o,some x] S=.ok (.lst [.bl (decide (C=44)),.bl (decide (C=63)),.bl (decide (C=82))]) S:=
  zBv (by rw[zA0,zBx (v _) k0,Rs.bind_ok,zEe (zBx (v _) k1) (zBx (v _) k2)];rfl) (by simp)
 have c2:eOp addD (eVar 2) (eLst (zA0 (eIsX (lkC t3) (eVar 3)) (zA0 (eIsX (lkC t4) (eVar 3)) aNil))) [a,b,some (.lst [.bl (decide (C=44)),.bl (decide (C=63)),.bl (decide (C=82))]),some x] S=.ok (.lst [.bl (decide (C=44)),.bl (decide (C=63)),.bl (decide (C=82)),.bl (decide (C=94)),.bl (decide (C=106))]) S:=
  zB1 (x:=.lst [.bl (decide (C=44)),.bl (decide (C=63)),.bl (decide (C=82))]) rfl (zBv (zEe (zBx (v _) k3) (zBx (v _) k4)) (by simp)) rfl
 have:sSeq (sSet 2 (eLst (zA0 (eIsX (lkC t0) (eVar 3)) (zA0 (eIsX (lkC t1) (eVar 3)) (zA0 (eIsX (lkC t2) (eVar 3)) aNil))))) (sSet 2 (eOp addD (eVar 2) (eLst (zA0 (eIsX (lkC t3) (eVar 3)) (zA0 (eIsX (lkC t4) (eVar 3)) aNil))))) [a,b,o,some x] S=.nx [a,b,some (.lst [.bl (decide (C=44)),.bl (decide (C=63)),.bl (decide (C=82)),.bl (decide (C=94)),.bl (decide (C=106))]),some x] S:=
  zAi (e:=[a,b,some (.lst [.bl (decide (C=44)),.bl (decide (C=63)),.bl (decide (C=82))]),some x]) (S1:=S) (by rw[sSet,c1];rfl) (by rw[sSet,c2];rfl)
 show(SR.ne _)=_
 rw[this]
 rfl
theorem zQh {C k:Nat}(h:Kl C k):inC [106,44,63,94,82] (C:Int)=true:=by
 rcases h with⟨rfl,rfl⟩|⟨rfl,rfl⟩|⟨rfl,rfl⟩|⟨rfl,rfl⟩|⟨rfl,rfl⟩ <;> decide
theorem zH6 {S:Store}{k:Nat}{d:D}(hk:k<5):zAh [.int (k:Nat),d] S=.ok (.lst (bs5 k)) S:=by
 refine zFs rfl ?_ rfl
 obtain⟨C,l,hC,e⟩:=zRr (S:=S) (d:=d) hk (o2:=some .non) (o3:=none)
 refine zAi (e:=[some (.int (k:Nat)),some d,some .non,none]) (S1:=S) (by simp_arith [xj]) ?_
 refine zAi (e:=[some (.int (k:Nat)),some d,some (.lst (bs5 k)),none]) (S1:=S) ?_ (by simp_arith [xj])
 show zH3 (inC [106,44,63,94,82]) 3 rM rS _ S=_
 unfold zH3
 rw[e]
 show(if inC [106,44,63,94,82] ((C:Nat):Int)=true then(match rS [some (.int (k:Nat)),some d,some .non,some (.st (.int (C:Nat)::l))] S with
  | .nx e S2=>SR.nx (e.set 3 none) S2
  | _=>.bad)else .bad)=_
 rw[xb (zQh hC),zRq hC rfl]
 rfl
noncomputable abbrev sLet:Str:=PySem.Str.ofString "abcdefghijklmnopqrstuvwxyz ,.0123456789-"
theorem zNk:∀c∈ls sLet,c<128:=by decide +kernel
theorem join0 (ys:List Str):ls (PySem.Txt.join (PySem.Str.ofString "") ys)=ys.flatMap ls:=by
 cases ys with
 | nil=>rfl
 | cons p ps=>
  show((List.drop 1 (p::ps)).foldl (fun acc q=>acc++(#[]:Array Nat)++q.cps) ((p::ps).headD PySem.Str.empty).cps).toList=_
  rw[zI2]
  simp
theorem zNl {cs:List Nat}(hl:cs.length<=10) (ha:∀c∈cs,c<128):Th (.str (PySem.Txt.join (PySem.Str.ofString "") (cs.map sgn))):=by
 have e:ls (PySem.Txt.join (PySem.Str.ofString "") (cs.map sgn))=cs:=by
  rw[join0,List.flatMap_map]
  induction cs with
  | nil=>rfl
  | cons c cs ih=>rw[List.flatMap_cons,ih (by rw[xH]at hl;lia) fun x hx=>ha x (.tail _ hx)];rfl
 show(ls _).length<=10/\∀c∈ls _,c<128
 rw[e]
 exact⟨hl,ha⟩
theorem zM0 (cs:List Nat):((cs.map sgn).map fun y:Str=>y.length).sum=cs.length:=by
 induction cs with
 | nil=>rfl
 | cons c cs ih=>rw[xt,xt,List.sum_cons,ih,xH];show 1+_=_;lia
theorem zF2 {S:Store}{n m:Nat}(h:Deal S n m):∃(d:D) (S':Store),zAq [.ref n] S=.ok d S'/\Th d/\Deal S' n m/\Only n m S S':=by
 have ll:sLet.length=40:=by decide +kernel
 obtain⟨r1,S1,e1,a1,b1,d1,o1⟩:=zSe (many:=10 ^ 30) (by decide) (by decide) h
 obtain⟨r2,S2,e2,a2,b2,d2,o2⟩:=drawn (many:=2) (by decide) (by decide) d1
 have p30:∀S,powD S (.int 10) (.int 30)=some (.int (10 ^ 30)):=fun _=>rfl
 have p29:∀S,powD S (.int 10) (.int 29)=some (.int (10 ^ 29)):=fun _=>rfl
 obtain⟨l0,el0⟩:∃l0:List D,l0=[.int (r1-10 ^ 29),.non,.bl (decide (r2=0))]:=⟨_,rfl⟩
 have mk0:MkD n m S S2.length l0 (S2++[.lst l0]):=MkD.new h d2 (o1.trans o2).grow l0
 obtain⟨q,S3,e3,q0,q9,d3,o3⟩:=drawn (many:=10) (by decide) (by decide) mk0.deal
 obtain⟨k,ek⟩:∃k:Nat,q=(k:Int):=⟨q.toNat,by nofun⟩
 rw[ek]at e3 q9
 have mk3:=mk0.draw h d3 o3
 obtain⟨env,ee⟩:∃env:Env,env=[some (.ref n),some (.str sLet),some (.ref S2.length)]:=⟨_,rfl⟩
 have v0:env[0]?=some (some (.ref n)):=by rw[ee];rfl
 have v2:env[2]?=some (some (.ref S2.length)):=by rw[ee];rfl
 have rg:=zBj (e:=zA8 zA1 (zA0 (eVar 0) (zA0 (eC (.int 10)) aNil))) (env:=env) (S:=S2++[.lst l0]) (S':=S3) (n:=k) (zB5 v0 e3) (by nofun)
 obtain⟨cs,S4,e4,lc,pc,mk4⟩:=zO1 (own:=1) (ix:=[1,0]) (g:=gName 0) (e:=eOp ixD (eVar 1) (zA8 zA1 (zA0 (eVar 2) (zA0 (eC (.int 40)) aNil)))) (k:=fun c=>D.str (sgn c)) (h:=fun(i:Nat)=>D.int (i:Int)) (fun en=>∃o,en=[o,some (.str sLet),some (.ref n)]) (MkD n m S S2.length l0) (fun c=>c<128) rg (fun _ _=>zB4) ⟨none,by rw[ee];rfl⟩ mk3 (by rw[List.length_range];exact xq (show k<=100 by nofun) (by decide)) (by
  rintro i hi en S' ⟨o,rfl⟩ mk
  obtain⟨r,S5,e5,r0,r9,d5,o5⟩:=drawn (many:=40) (by decide) (by decide) mk.deal
  obtain⟨c,mc,ic⟩:=zS9 (S:=S5) (z:=sLet) (i:=r) (by rw[ll];decide) r0 (by rw[ll];exact r9)
  exact⟨[some (.int (i:Int)),some (.str sLet),some (.ref n)],c,S5,rfl,⟨_,rfl⟩,zB1 (x:=.str sLet) rfl (zB5 rfl e5) ic,zNk c mc,mk.draw h d5 o5⟩)
 rw[List.length_range]at lc
 obtain⟨x,ex⟩:∃x,PySem.Txt.join (PySem.Str.ofString "") (cs.map sgn)=x:=⟨_,rfl⟩
 have thx:Th (.str x):=by rw[<- ex];exact zNl (by nofun) pc
 have jn:eMt "str" joinM (eC (.str (PySem.Str.ofString ""))) (zA0 (zAn 1 [1,0] (zB3 (zA0 (zA8 zA1 (zA0 (eVar 0) (zA0 (eC (.int 10)) aNil))) aNil)) (gName 0) tYes (eOp ixD (eVar 1) (zA8 zA1 (zA0 (eVar 2) (zA0 (eC (.int 40)) aNil))))) aNil) env (S2++[.lst l0])=.ok (.str x) S4:=by
  rw[eMt,show eC (.str (PySem.Str.ofString "")) env (S2++[.lst l0])=.ok (.str (PySem.Str.ofString "")) (S2++[.lst l0])from rfl,Rs.bind_ok,xb (show tyD (S2++[.lst l0]) (.str (PySem.Str.ofString ""))=some "str" from rfl),zCn e4,Rs.bind_ok]
  have j:=zNm (S:=S4) (sep:=PySem.Str.ofString "") (ys:=cs.map sgn) (by decide) (by rw[zM0,xE];lia)
  rw[List.map_map]at j
  rw[show(cs.map fun c=>D.str (sgn c))=cs.map (D.str ∘ sgn)from rfl,j,ex]
  rfl
 have ap:=zEy (d:=.str x) mk4.at_ (by rw[el0];simp)
 have mk5:=mk4.add h (.str x)
 have s1:zC8 (eMt "list" zAu (eVar 2) (zA0 (eMt "str" joinM (eC (.str (PySem.Str.ofString ""))) (zA0 (zAn 1 [1,0] (zB3 (zA0 (zA8 zA1 (zA0 (eVar 0) (zA0 (eC (.int 10)) aNil))) aNil)) (gName 0) tYes (eOp ixD (eVar 1) (zA8 zA1 (zA0 (eVar 2) (zA0 (eC (.int 40)) aNil))))) aNil)) aNil)) env (S2++[.lst l0])=.nx env (S4.set S2.length (.lst (l0++[.str x]))):=by
  rw[zC8,eMt,zAp v2,Rs.bind_ok,xb (ty_D mk0.at_),zCn jn,Rs.bind_ok,ap]
  rfl
 obtain⟨u,S6,e6,u0,u9,d6,o6⟩:=drawn (many:=9) (by decide) (by decide) mk5.deal
 obtain⟨w,S7,e7,w0,w9,d7,o7⟩:=drawn (many:=9) (by decide) (by decide) d6
 have mk7:=(mk5.draw h d6 o6).draw h d7 o7
 have ap2:=zEy (d:=.tup [.int u,.int w]) mk7.at_ (by rw[el0];simp)
 have mk8:=mk7.add h (.tup [.int u,.int w])
 have s2:zC8 (eMt "list" zAu (eVar 2) (zA0 (eTup (zA0 (zA8 zA1 (zA0 (eVar 0) (zA0 (eC (.int 9)) aNil))) (zA0 (zA8 zA1 (zA0 (eVar 0) (zA0 (eC (.int 9)) aNil))) aNil))) aNil)) env (S4.set S2.length (.lst (l0++[.str x])))=.nx env (S7.set S2.length (.lst (l0++[.str x]++[.tup [.int u,.int w]]))):=by
  have tp:eTup (zA0 (zA8 zA1 (zA0 (eVar 0) (zA0 (eC (.int 9)) aNil))) (zA0 (zA8 zA1 (zA0 (eVar 0) (zA0 (eC (.int 9)) aNil))) aNil)) env (S4.set S2.length (.lst (l0++[.str x])))=.ok (.tup [.int u,.int w]) S7:=by
   rw[eTup,zA0,zB5 v0 e6,Rs.bind_ok,zCn (zB5 v0 e7)]
   rfl
  rw[zC8,eMt,zAp v2,Rs.bind_ok,xb (ty_D mk5.at_),zCn tp,Rs.bind_ok,ap2]
  rfl
 obtain⟨r,S9,e9,r0,r9,d9,o9⟩:=drawn (many:=5) (by decide) (by decide) mk8.deal
 have mk9:=mk8.draw h d9 o9
 have el:l0++[.str x]++[.tup [.int u,.int w]]=[.int (r1-10 ^ 29),.non,.bl (decide (r2=0)),.str x,.tup [.int u,.int w]]:=by rw[el0];rfl
 obtain⟨d,ed,td⟩:∃d,atL [D.int (r1-10 ^ 29),.non,.bl (decide (r2=0)),.str x,.tup [.int u,.int w]] r=some d/\Th d:=by
  rcases(show r=0\/r=1\/r=2\/r=3\/r=4 by nofun)with rfl|rfl|rfl|rfl|rfl
  ·exact⟨_,atL0,show(r1-10 ^ 29).natAbs<=10 ^ 30 by nofun⟩
  ·exact⟨_,atL1,trivial⟩
  ·exact⟨_,atL2,trivial⟩
  ·exact⟨_,atL3,thx⟩
  ·exact⟨_,atN (k:=4) rfl rfl,show u.natAbs<=9/\w.natAbs<=9 by nofun⟩
 have ix:ixD S9 (.ref S2.length) (.int r)=some d:=by
  show(match look S9 (.ref S2.length),D.int r with|some (.tup l),.int i=>atL l i|some (.lst l),.int i=>atL l i|some (.str z),.int i=>_|some (.dct t ks vs),k=>_|_,_=>none)=_
  rw[show look S9 (.ref S2.length)=some (.lst (l0++[.str x]++[.tup [.int u,.int w]]))from mk9.at_,el]
  exact ed
 have body:zB6 ([D.ref n].map some++List.replicate (3-1) none) S=.rt d S9:=by
  refine zAi (e:=[some (.ref n),some (.str sLet),none]) (S1:=S) (by simp_arith [xj]) (zAi (e:=env) (S1:=S2++[.lst l0]) ?_ (zAi s1 (zAi s2 (zH4 (zB1 (zAp v2) (zB5 v0 e9) ix)))))
  rw[ee,el0]
  have eb:eqI S2 (.int r2) (.int 0)=some (.bl (decide (r2=0))):=rfl
  simp_arith [eNew,p30,p29,e1,e2,eb]
 obtain⟨S',c1,c2,c3⟩:=zGm (np:=1) (nl:=3) (b:=zB6) (ds:=[.ref n]) rfl body h mk9.deal mk9.grow td.low
 exact⟨d,S',c1,td,c2,c3⟩
end
end DP
namespace DP
open DS TX
open PySem (Str PyData)
noncomputable section
open Classical
noncomputable abbrev xN (d:D):D:=.st [.int (44:Nat),.str (PySem.Str.ofString "name"),d]
noncomputable abbrev xT (d:D):D:=.st [.int (63:Nat),.str (PySem.Str.ofString "row"),d]
noncomputable abbrev xM (d:D):D:=.st [.int (82:Nat),.str (PySem.Str.ofString "many"),d]
noncomputable abbrev mad (d:D):List D:=[xN d,xT d,xM d,.st [.int (94:Nat)],.st [.int (106:Nat)]]
noncomputable abbrev bes (d:D):List D:=[xN d,xT d,xM d]
theorem zI5 {C:Nat}{f:Str}{d:D}{e:EM}{env:Env}{S:Store}(h:e env S=.ok (.st [.int (C:Nat),.str f,d]) S) (hi:inC [C] (C:Int)=true):eFld (inC [C]) f e env S=.ok d S:=by
 unfold eFld
 rw[h,Rs.bind_ok]
 show lift (if inC [C] (C:Int)=true then(if(f == f)=true then some d else _)else none) S=_
 rw[xb hi,xb (by simp)]
 rfl
theorem zSr {a b c:EM}{env:Env}{S:Store}{x y z:D}(ha:a env S=.ok x S) (hb:b env S=.ok y S) (hc:c env S=.ok z S):zA0 a (zA0 b (zA0 c aNil)) env S=.ok [x,y,z] S:=by rw[zA0,ha,Rs.bind_ok,zEe hb hc];rfl
noncomputable abbrev lB:SM:=(sIf (tB (eOp neD (eCB zEh (zA0 (eLst (zA0 (eFld (inC [44]) (PySem.Str.ofString "name") (eOp ixD (eVar 6) (eC (.int 0)))) (zA0 (eFld (inC [63]) (PySem.Str.ofString "row") (eOp ixD (eVar 6) (eC (.int 1)))) (zA0 (eFld (inC [82]) (PySem.Str.ofString "many") (eOp ixD (eVar 6) (eC (.int 2)))) aNil)))) aNil)) (eCB zEh (zA0 (eOp mulE (eLst (zA0 (eVar 7) aNil)) (eC (.int 3))) aNil)))) (sRet (eC (.bl false))) zDp)
theorem zNd {S:Store}{r:Str}:neD S (.str r) (.str r)=some (.bl false):=by
 show(some (decide (r=r))).map (fun b=>D.bl (!b))=_
 rw[xD rfl];rfl
theorem zS8 {S:Store}{d:D}{rest:List D}{env:Env}(h:Th d) (v6:env[6]?=some (some (.lst (xN d::xT d::xM d::rest)))) (v7:env[7]?=some (some d)):lB env S=.nx env S:=by
 obtain⟨r,er⟩:=repr3 h
 have i0:eOp ixD (eVar 6) (eC (.int 0)) env S=.ok (xN d) S:=zB1 (zAp v6) rfl (by rw[ixL];exact atL0)
 have i1:eOp ixD (eVar 6) (eC (.int 1)) env S=.ok (xT d) S:=zB1 (zAp v6) rfl (by rw[ixL];exact atL1)
 have i2:eOp ixD (eVar 6) (eC (.int 2)) env S=.ok (xM d) S:=zB1 (zAp v6) rfl (by rw[ixL];exact atL2)
 have c1:=zRf (zBv (zSr (zI5 i0 (by decide)) (zI5 i1 (by decide)) (zI5 i2 (by decide))) (by simp)) (er S)
 have mu:mulE S (.lst [d]) (.int 3)=some (.lst [d,d,d]):=by
  show(if [d]≠[]/\(0:Int)<=3/\[d].length*(3:Int).toNat<=most/\(3:Int)<=1000000 then some (D.lst (List.replicate (3:Int).toNat [d]).flatten)else none)=_
  rw[xb ⟨by simp,by decide,by show 3<=most;decide,by decide⟩]
  rfl
 have c2:=zRf (zB1 (zBv (zCn (zAp v7)) (by simp)) (show eC (.int 3) env S=.ok (.int 3) S from rfl) mu) (er S)
 refine zQi ?_ rfl
 rw[tB,zB1 c1 c2 zNd]
 rfl
theorem zLs {S:Store}{k:Nat}:eqO S (.lst ([.bl true,.bl true]++bs5 k)) (.lst ([.bl true,.bl true]++bs5 k))=some true:=by
 show(if okL ([.bl true,.bl true]++bs5 k) ([.bl true,.bl true]++bs5 k)then some (decide (([.bl true,.bl true]++bs5 k)=([.bl true,.bl true]++bs5 k)))else none)=_
 rw[xb ⟨rfl,rfl,rfl,xq (Nat.le_of_eq (show depL ([.bl true,.bl true]++bs5 k)=0 from rfl)) (by decide)⟩,xD rfl]
theorem zRe {S:Store}{k:Nat}:eqO S (.lst (bs5 k)) (.lst (bs5 k))=some true:=by
 show(if okL (bs5 k) (bs5 k)then some (decide (bs5 k=bs5 k))else none)=_
 rw[xb ⟨rfl,rfl,rfl,xq (Nat.le_of_eq (show depL (bs5 k)=0 from rfl)) (by decide)⟩,xD rfl]
theorem zNh {S:Store}{d:D}{k:Nat}(hk:k<5):∃(C:Nat) (l:List D),Kl C k/\ixD S (.lst (mad d)) (.int (k:Nat))=some (.st (.int (C:Nat)::l)):=by
 rcases(show k=0\/k=1\/k=2\/k=3\/k=4 by nofun)with rfl|rfl|rfl|rfl|rfl
 ·exact⟨44,_,.inl ⟨rfl,rfl⟩,atL0⟩
 ·exact⟨63,_,.inr (.inl ⟨rfl,rfl⟩),atL1⟩
 ·exact⟨82,_,.inr (.inr (.inl ⟨rfl,rfl⟩)),atL2⟩
 ·exact⟨94,_,.inr (.inr (.inr (.inl ⟨rfl,rfl⟩))),atL3⟩
 ·exact⟨106,_,.inr (.inr (.inr (.inr ⟨rfl,rfl⟩))),atN (k:=4) rfl rfl⟩
theorem zIy {S:Store}{d:D}{k:Nat}(hk:k<3):∃(C:Nat) (l:List D),Kl C k/\ixD S (.lst (bes d)) (.int (k:Nat))=some (.st (.int (C:Nat)::l)):=by
 rcases(show k=0\/k=1\/k=2 by nofun)with rfl|rfl|rfl
 ·exact⟨44,_,.inl ⟨rfl,rfl⟩,atL0⟩
 ·exact⟨63,_,.inr (.inl ⟨rfl,rfl⟩),atL1⟩
 ·exact⟨82,_,.inr (.inr (.inl ⟨rfl,rfl⟩)),atL2⟩
noncomputable abbrev mB:SM:=(sIf (tOr (tB (eOp neD (zA8 zA9 (zA0 (eOp ixD (eVar 4) (eVar 8)) aNil)) (zA8 zAb (zA0 (eVar 8) aNil)))) (tB (eOp neD (zA8 zAh (zA0 (eVar 8) (zA0 (eVar 2) aNil))) (eSl slD (zA8 zAb (zA0 (eVar 8) aNil)) (pYes (eC (.int 2))) pNo)))) (sRet (eC (.bl false))) zDp)
theorem call1 {F:Fn}{e:EM}{env:Env}{S:Store}{d r:D}(he:e env S=.ok d S) (hf:F [d] S=.ok r S):zA8 F (zA0 e aNil) env S=.ok r S:=by rw[zA8,zCn he,Rs.bind_ok,hf]
theorem zS7 {S:Store}{d:D}{k:Nat}{env:Env}(hk:k<5) (v4:env[4]?=some (some (.lst (mad d)))) (v2:env[2]?=some (some d)) (v8:env[8]?=some (some (.int (k:Nat)))):mB env S=.nx env S:=by
 obtain⟨C,l,hC,ix⟩:=zNh (S:=S) (d:=d) hk
 have c1:=call1 (F:=zA9) (zB1 (zAp v4) (zAp v8) ix) (zF5 hC)
 have c2:zA8 zAb (zA0 (eVar 8) aNil) env S=.ok (.lst ([.bl true,.bl true]++bs5 k)) S:=call1 (zAp v8) zLj
 have c3:zA8 zAh (zA0 (eVar 8) (zA0 (eVar 2) aNil)) env S=.ok (.lst (bs5 k)) S:=by rw[zA8,zEe (zAp v8) (zAp v2),Rs.bind_ok,zH6 hk]
 have c4:eSl slD (zA8 zAb (zA0 (eVar 8) aNil)) (pYes (eC (.int 2))) pNo env S=.ok (.lst (bs5 k)) S:=by
  rw[eSl,c2]
  rfl
 have n1:neD S (.lst ([.bl true,.bl true]++bs5 k)) (.lst ([.bl true,.bl true]++bs5 k))=some (.bl false):=by
  unfold neD;rw[zLs];rfl
 have n2:neD S (.lst (bs5 k)) (.lst (bs5 k))=some (.bl false):=by
  unfold neD;rw[zRe];rfl
 refine zQi ?_ rfl
 rw[tOr,tB,zB1 c1 c2 n1]
 show tB _ env S=_
 rw[tB,zB1 c3 c4 n2]
 rfl
theorem zOm:zBd=zCm 2 5 zJ0:=rfl
theorem law_ok (ns:List Int) (hn:ns.length<=63):∃S,zG8 [.klst (ns.map .int)] []=.ok (.bl true) S:=by
 obtain⟨S1,e1,d1,_,_⟩:=zKw (S:=[]) hn
 rw[<- zOm]at e1
 have d1:Deal S1 0 1:=d1
 obtain⟨a,S2,e2,ta,d2,_⟩:=zF2 d1
 obtain⟨b,S3,e3,tb,d3,_⟩:=zF2 d2
 obtain⟨K,eK⟩:∃K,K=D.klst (ns.map .int):=⟨_,rfl⟩
 -- the first walk
 obtain⟨env4,S4,e4,o6,o7,rfl,rfl⟩:=zI1 (h:=fun p:List D × D=>D.tup [.lst p.1,p.2]) (gd:=[]) (g:=gTup [(gName 6),(gName 7)]) (b:=lB) (fun env S'=>∃o6 o7,env=[some K,some (.ref 0),some a,some b,some (.lst (mad a)),some (.lst (bes b)),o6,o7,none]/\S'=S3) (fun _ _ _=>zB4) [(mad a,a),(bes b,b),(mad a,a)] [some K,some (.ref 0),some a,some b,some (.lst (mad a)),some (.lst (bes b)),none,none,none] S3 ⟨none,none,rfl,rfl⟩ (by
  rintro p hp env S' ⟨o6,o7,rfl,rfl⟩
  have:∃d rest,Th d/\p=(xN d::xT d::xM d::rest,d):=by
   simp only[xC,List.not_mem_nil,or_false]at hp
   rcases hp with rfl|rfl|rfl
   ·exact⟨a,_,ta,rfl⟩
   ·exact⟨b,_,tb,rfl⟩
   ·exact⟨a,_,ta,rfl⟩
  obtain⟨d,rest,td,rfl⟩:=this
  refine⟨[some K,some (.ref 0),some a,some b,some (.lst (mad a)),some (.lst (bes b)),some (.lst (xN d::xT d::xM d::rest)),some d,none],_,S',rfl,zS8 td rfl rfl,_,_,rfl,rfl⟩)
 -- the second
 obtain⟨env5,S5,e5,o8,rfl,rfl⟩:=zI1 (h:=fun(i:Nat)=>D.int (i:Int)) (gd:=[]) (g:=gName 8) (b:=mB) (fun env S'=>∃o8,env=[some K,some (.ref 0),some a,some b,some (.lst (mad a)),some (.lst (bes b)),o6,o7,o8]/\S'=S4) (fun _ _ _=>zB4) (List.range 5) [some K,some (.ref 0),some a,some b,some (.lst (mad a)),some (.lst (bes b)),o6,o7,none] S4 ⟨none,rfl,rfl⟩ (by
  rintro i hi env S' ⟨o8,rfl,rfl⟩
  exact⟨[some K,some (.ref 0),some a,some b,some (.lst (mad a)),some (.lst (bes b)),o6,o7,some (.int (i:Int))],_,S',rfl,zS7 (d:=a) (List.mem_range.mp hi) rfl rfl rfl,_,rfl,rfl⟩)
 have c:(zAn 1 [5] (zB3 (zA0 (eC (.int 3)) aNil)) (gName 0) tYes (eOp eqD (zA8 zA9 (zA0 (eOp ixD (eVar 1) (eVar 0)) aNil)) (zA8 zAb (zA0 (eVar 0) aNil)))) [some K,some (.ref 0),some a,some b,some (.lst (mad a)),some (.lst (bes b)),o6,o7,o8] S5=.ok (.lst ((List.range 3).map fun _=>.bl (decide True))) S5:=by
  refine zIa (xs:=List.range 3) (h:=fun(i:Nat)=>.int (i:Int)) (gd:=[]) (fun env=>∃o,env=[o,some (.lst (bes b))]) (zBj (n:=3) rfl (by decide)) zB4 ⟨none,rfl⟩ (by decide) ?_
  rintro i hi env ⟨o,rfl⟩
  refine⟨[some (.int (i:Int)),some (.lst (bes b))],rfl,⟨_,rfl⟩,?_⟩
  obtain⟨C,l,hC,ix⟩:=zIy (S:=S5) (d:=b) (List.mem_range.mp hi)
  refine zB1 (call1 (F:=zA9) (zB1 (x:=.lst (bes b)) rfl (y:=.int (i:Int)) rfl ix) (zF5 hC)) (call1 (d:=.int (i:Int)) rfl zLj) ?_
  unfold eqD
  rw[zLs,xD trivial]
  rfl
 have al:=zRj (S:=S5) (p:=fun _:Nat=>True) (List.range 3)
 rw[xD (fun _ _=>trivial)]at al
 refine⟨[],?_⟩
 unfold zG8 zAt
 rw[xb (show [D.klst (ns.map .int)].length=1 from rfl)]
 suffices hb':zOt ([D.klst (ns.map .int)].map some++List.replicate (9-1) none) []=.rt (.bl true) S5 by rw[hb'];exact zNx
 refine zAi (e:=[some K,some (.ref 0),none,none,none,none,none,none,none]) (S1:=S1) (by rw[eK];simp_arith [e1]) ?_
 refine zAi (e:=[some K,some (.ref 0),some a,some b,none,none,none,none,none]) (S1:=S5) (by simp_arith [e2,e3]) ?_
 refine zAi (e:=[some K,some (.ref 0),some a,some b,some (.lst (mad a)),none,none,none,none]) (S1:=S5) rfl ?_
 refine zAi (e:=[some K,some (.ref 0),some a,some b,some (.lst (mad a)),some (.lst (bes b)),none,none,none]) (S1:=S5) rfl ?_
 refine zAi (e:=[some K,some (.ref 0),some a,some b,some (.lst (mad a)),some (.lst (bes b)),o6,o7,none]) (S1:=S5) ?_ ?_
 ·rw[sFor,zNs (l:=[(mad a,a),(bes b,b),(mad a,a)].map fun p:List D × D=>D.tup [.lst p.1,p.2]) rfl,Rs.then_ok]
  exact e4
 refine zAi (e:=[some K,some (.ref 0),some a,some b,some (.lst (mad a)),some (.lst (bes b)),o6,o7,o8]) (S1:=S5) ?_ ?_
 ·rw[sFor,zBj (n:=5) rfl (by decide),Rs.then_ok]
  exact e5
 rw[sRet,eCB,zCn c,Rs.bind_ok,al]
 rfl
end
end DP
namespace L2
open PySem PySem.Spec PyProof.Rows
open DS (D Store Exn Rs SR)
noncomputable def xeOf (K:PySem.W.Frag) (EX:XK):XE:=fun x _ J H=>∀d a,x=DS.exOf d->Rep K J H d (.ref a)->EX (.ref a) none H
noncomputable def spX (K:PySem.W.Frag) (F:DS.Fn):Sp:=fun vs H Q EX=>∃J S ds,AbS K J S H/\RepL K J H ds vs/\Post K (xeOf K EX) J H (F ds S) (fun d _ J' H'=>∀v,Rep K J' H' d v->Q v H')
section
variable {α:Type}{X:Cx}{K:PySem.W.Frag}{E:XE}{J:Js}{H:Hp}{e:Expr}{st:Stmt}{sts:List Stmt}{m:DS.EM}{mt:DS.TM}{ms:DS.SM}
theorem Post.ne {r:Rs α}{P:α->Store->Js->Hp->Prop}(h:Post K E J H r.ne P):Post K XE0 J H r P:=by
 cases r with
 | ok a S=>exact h
 | ex x S=>exact False.elim h
 | bad=>exact h
theorem PA.nox {es:List Expr}{t:TA}(h:PA X.nox es t):PA X es t:=fun pos pins s σ H Q I hw=>
 xw (h pos pins s σ H Q (I.wish _) hw) (fun _ _ hz9=>by obtain⟨v,H',I',r,q⟩:=hz9;exact ⟨v,H',I'.unwish,r,q⟩) fun _ _ z=>False.elim z
end
end L2
namespace L2
open PySem PySem.Spec PyProof.Rows
open DS (D Store Exn Rs SR)
noncomputable def spI (K:PySem.W.Frag) (f:Str):Sp:=fun vs H Q _=>∃a x C,vs=[.ref a,x]/\H a=some (.ext (XO a C none true))/\ClsE K C/\NoAttr K C f/\∀dx,H dx=none->dx≠a->Q .non (upd (upd H a (.ext (XO a C (some dx) true))) dx (.xd [(f,x)]))
theorem zNq {P:Program}{w:World}{K:PySem.W.Frag}{mg:Str->Option Value}{base:Heap}{k:Nat}{x qual s0 x0 f:Str}{st:Stmt}{fI:Addr}{fd:FuncData}{p1 p2 p3 p4:Pos}(F:Fun K x qual st fI fd) (Sc:zBe [s0,x0] [s0,x0] (zA4 st))
  (hb:zAc st=[.Assign [.Attribute (.Name s0 p1) f p2] (.Name x0 p3) p4]) (v0:Vis (zA4 st) s0) (v1:Vis (zA4 st) x0) (d0:(s0 == ("__debug__":Str))=false:=by decide) (d1:(x0 == ("__debug__":Str))=false:=by decide)
  (c0:(s0 == ("__classdict__":Str))=false:=by decide) (c1:(x0 == ("__classdict__":Str))=false:=by decide):FnOk P w K mg base CX0 (k+1) fI fd [s0,x0] (spI K f):=by
 refine F.ok Sc (fun vs H Q E hq30=>by obtain⟨a,y,C,e,_⟩:=hq30;rw[e];rfl) (fun cdv A outer s H vs Q E hr hq1=>?_)
 obtain⟨a,y,C,e,ea,c,n,q⟩:=hq1
 rw[hb]
 subst e
 exact⟨_,(zF8 ⟨zRu (pv 0 rfl v0 d0 c0) (pv 1 rfl v1 d1 c1) rfl⟩).h,y,rfl,.ref a,rfl,a,C,true,rfl,ea,c,n,q⟩
section
variable {X:Cx}{CX:CXT}{k:Nat}{f C:Addr}{fd:FuncData}{ps:List Str}{sp:Sp}{E:XK}{x:Str}{p pos:Pos}{e:Expr}{es:List Expr}{t:TA}{B newId initId:String}{bmB:List Value}
noncomputable def tExc (C:Addr) (sp:Sp) (E:XK) (t:TA):TE:=fun σ H Q=>t σ H fun vs H1=>vs.length<=1000/\∀a,H1 a=none->sp (.ref a::vs) (upd H1 a (.ext (XO a C none true))) (fun v H2=>v=.non/\Q (.ref a) H2) E
theorem zL6 (FB:ExcBaseFacts B newId initId bmB) (M:zEp X.K C f bmB newId=true) (F:FnOk X.prog X.w X.K X.mg X.base CX k f fd ps sp) (hr:Room (k+1) X.A) (hb:Binds X.K fd ps []) (hx:Passes CX X E) (hg:Gl X x) (hm:X.mg x=some (.ref C)) (hk:PySem.W.keepIn X.K (.ref C)=true)
  (ha:PA X (e::es) t) (hdb:(x == ("__debug__":Str))=false:=by decide) (he:starEach (e::es) X.env=(false,eval e X.env)::starEach es X.env:=by rfl) (hpl:(backTo pos (starEach es X.env)).any (·.1)=false:=by rfl):
  PE X (.Call (.Name x p) (e::es) [] pos) (tExc C sp E t):=by
 intro pins s σ H Q I h
 refine vp (zCb I hg hm ?_ hdb)
 refine PySem.W.callWith_K (h₀:=X.base) I.ok.mod.kin hk (thn (ha pos pins s σ H _ I h) fun us s1 hz0=>by obtain⟨vs,H1,I1,r,z,q⟩:=hz0;exact ⟨I1.kIn,zM7 FB M F hr hb hx I1 r (by show us.length<=1000;rw[<- r.length];exact z) q⟩) he hpl
end
end L2
namespace L2
open PySem PySem.Spec PyProof.Rows
open DS (D Store Exn Rs SR)
section
variable {α:Type}{K:PySem.W.Frag}{E E':XE}{J:Js}{H:Hp}
theorem RepE.unset {env:DS.Env}{σ:St}{i:Nat}(h:RepE K J H env σ):RepE K J H (env.set i none) (σ.set i none):=by
 refine⟨by simp[h.len],fun j d' e=>?_⟩
 by_cases hj:i=j
 ·subst hj
  have hi:i<env.length:=by
   have:=(xu.mp e).1
   simpa using this
  rw[xF hi]at e
  cases e
 ·rw[xr hj]at e
  obtain⟨v,q,r⟩:=h.get j d' e
  exact⟨v,by rw[xr hj];exact q,r⟩
end
end L2
namespace L2
open PySem PySem.Spec PyProof.Rows
open DS (D Store Exn Rs SR)
structure ClsX (K:PySem.W.Frag) (C:Addr):Prop where
 cl:ClsE K C
 ha:PySem.W.findIn K (.ref C) "__class__"=some (some (.builtin "object.__class__"))
 hn:PySem.W.specialIn K (.builtin "object.__class__") "__get__"=some (some (.builtin "getset_descriptor.__get__"))
 htk:PySem.W.takesIn K (.builtin "object.__class__")=some true
section
variable {X:Cx}{K:PySem.W.Frag}{E:XE}{J:Js}{H:Hp}{e c:Expr}{f:Str}{p p2 pos:Pos}{m:DS.EM}{d:D}{te:TE}
theorem zI4:∀{l:List D}{xs:List (Str × V)}{d:D},RepF K J H l xs->DS.fldL f l=some d->∃v,xs.lookup f=some v/\Rep K J H d v
 | [],_,_,_,e=>by cases e
 | .str g::d::l,_,d',⟨x,r,ex,h,t⟩,e=>by
  subst ex
  unfold DS.fldL at e
  by_cases q:(f == g)=true
  ·rw[xb q]at e;cases e
   exact⟨x,by rw[xy,q],h⟩
  ·rw[xc q]at e
   obtain⟨v,h1,h2⟩:=zI4 t e
   exact⟨v,by rw[xy,vB.mpr q];exact h1,h2⟩
theorem zR8 {okC:Int->Bool}(hC:∀C:Nat,okC C=true->ClsE K C/\NoAttr K C f) (he:DE X K E e m) (hb:attributeBase e f X.env (eval e X.env)=eval e X.env:=by rfl) (hK:X.K=K:=by rfl):DE X K E (.Attribute e f pos) (DS.eFld okC f m):=by
 subst hK
 refine⟨SE.imp ⟨zRw he.h.h hb⟩ fun σ H Q ⟨env,S,J,hab,hen,q⟩=>⟨env,S,J,hab,hen,q.bind.imp fun d S1 J1 H1 _ a1 g1 q1 v rv=>?_⟩⟩
 obtain⟨d',ed,k⟩:=q1.lift
 unfold DS.fldX at ed
 split at ed
 ·rename_i c l
  obtain⟨a,C,dx,fr,xs,rfl,na,h,fs,rfl,rf⟩:=rv
  by_cases oc:okC C=true
  ·rw[xb oc]at ed
   obtain⟨w,hw,rw'⟩:=zI4 rf ed
   rcases fs with⟨_,rfl⟩|⟨dx,rfl,_,hd⟩
   ·cases hw
   ·exact⟨a,C,dx,fr,xs,w,rfl,h,hd,(hC C oc).1,(hC C oc).2,hw,k J1 H1 a1 .refl w rw'⟩
  ·rw[xc oc]at ed;cases ed
 ·cases ed
theorem XFs.there {dx:Option Addr}{xs:List (Str × V)}(h:XFs J H dx xs):∀d,dx=some d->∃fs,H d=some (.xd fs):=fun d e=>by
 rcases h with⟨z,_⟩|⟨d',z,_,hd⟩
 ·rw[z]at e;cases e
 ·rw[z]at e;cases e;exact⟨_,hd⟩
theorem zKz:zBl X (.builtin "isinstance") (fun xs H Q=>∃a C dx fr y b,xs=[.ref a,y]/\H a=some (.ext (XO a C dx fr))/\(∀d,dx=some d->∃fs,H d=some (.xd fs))/\ClsX X.K C /\
  ((∃cv,(∀u,RelV y u->u=cv)/\PySem.W.kitOne X.K (.ref C) cv=some b)\/∃tp ys its,y=.ref tp/\H tp=some (.tup ys)/\(∀us,Vals ys us->us=its)/\PySem.W.kitAny X.K (.ref C) its=some b)/\Q (.bl b) H):=by
 intro pins s σ H xs us Q I r hq31
 obtain⟨a,C,dx,fr,y,b,ex,ea,ed,cx,hk,q⟩:=hq31
 subst ex
 obtain⟨u,w',rfl,ru,rw'⟩:=vals2 r
 cases(show u=Value.ref a from ru)
 obtain⟨⟨vs,sl,he,_⟩,_⟩:=I.hok a _ ea
 obtain⟨od,J⟩:∃od,PySem.W.InstAt s.heap a ⟨.ref C,dx,.fields vs,sl⟩ C od:=by
  cases dx with
  | none=>exact⟨none,he,rfl,rfl,trivial⟩
  | some d=>
   obtain⟨fs,ed⟩:=ed d rfl
   obtain⟨mA,hn,_⟩:=I.hok d _ ed
   obtain⟨od,ho,_⟩:=zDu hn
   exact⟨some od,he,rfl,rfl,ho⟩
 have Z:=zKa (x:=a) (ox:=⟨.ref C,dx,.fields vs,sl⟩) (od:=od) cx.cl cx.ha cx.hn cx.htk
 rcases hk with⟨cv,hc,ek⟩|⟨tp,ys,its,rfl,et,hv,ek⟩
 ·cases hc w' rw'
  exact PySem.W.kia_one Z I.kIn J ek (fun z=>nomatch z) fun tk=>⟨.bl b,H,I.tok _,rfl,q⟩
 ·cases(show w'=Value.ref tp from rw')
  obtain⟨_,us,vv,pp⟩:=(show ObjOk X.prog X.w H s.heap tp (.tup ys)from I.hok tp _ et)
  obtain⟨o,h1,h2,n,h3⟩:=pp
  cases hv us vv
  obtain⟨oc,od',odt,osl⟩:=o
  dsimp only at h2 h3
  subst h2 h3
  exact PySem.W.kia_tup Z I.kIn J h1 ek (fun z=>nomatch z) fun tk=>⟨.bl b,H,I.tok _,rfl,q⟩
theorem zLp {y:V}{cv:Value}{g:Int->Option Bool}(hC:∀(C:Nat) (b:Bool),g C=some b->ClsX K C/\PySem.W.kitOne K (.ref C) cv=some b) (hy:∀u,RelV y u->u=cv) (hg:Gl X "isinstance") (hm:X.mg "isinstance"=none) (hv:bootBuiltins "isinstance"=some (.builtin "isinstance")) (he:DE X K E e m) (hc:SE X c (tC y)) (h:[e,c].all nst=true:=by rfl)
  (hK:X.K=K:=by rfl):DE X K E (.Call (.Name "isinstance" p) [e,c] [] pos) (DS.eIsX g m):=by
 subst hK
 refine⟨SE.imp (zH7 zKz hg hm hv (qa' he.h (qa' hc pa_nil' (by simp at h;exact h.2)) (by simp at h;exact h.1)) (by decide) (by decide) h) fun σ H Q ⟨env,S,J,hab,hen,q⟩=>⟨env,S,J,hab,hen,q.bind.imp fun d S1 J1 H1 _ a1 g1 q1 v rv=>?_⟩⟩
 obtain⟨d',ed,k⟩:=q1.lift
 unfold DS.isX at ed
 split at ed
 ·rename_i c l
  obtain⟨a,C,dx,fr,xs,rfl,na,h,fs,rfl,_⟩:=rv
  cases eg:g C with
  | none=>rw[eg]at ed;cases ed
  | some b=>
   rw[eg]at ed;cases ed
   exact⟨a,C,dx,fr,y,b,rfl,h,fs.there,(hC C b eg).1,.inl ⟨cv,hy,(hC C b eg).2⟩,k J1 H1 a1 .refl _ rfl⟩
 ·cases ed
end
end L2
namespace L2
open PySem PySem.Spec PyProof.Rows
open DS (D Store Exn Rs SR)
theorem zLf {l:List Nat}{C:Nat}(h:DS.inC l (C:Int)=true):C∈l:=by
 obtain⟨n,hn,e⟩:=List.any_eq_true.mp h
 have:C=n:=by have:=eq_of_beq e;lia
 rw[this];exact hn
theorem zLd {l:List (Nat × Bool)}{C:Nat}{b:Bool}(h:DS.lkC l (C:Int)=some b):(C,b)∈l:=by
 unfold DS.lkC at h
 cases e:l.find? fun p=>(C:Int) == (p.1:Int)with
 | none=>rw[e]at h;cases h
 | some p=>
  rw[e]at h
  cases h
  have h1:=List.find?_some e
  have:C=p.1:=by have:=eq_of_beq h1;lia
  rw[this];exact List.mem_of_find?_eq_some e
noncomputable def clsB (K:PySem.W.Frag) (C:Addr):Bool:=PySem.W.findIn K (.ref C) "__getattribute__" == some (some (.builtin "BaseException.__getattribute__")) && (PySem.W.findIn K (.ref C) "__getattr__" == some none && (PySem.W.hasDictIn K C && (zI7 K C && (PySem.W.findIn K (.ref C) "__setattr__" == some (some (.builtin "object.__setattr__")) && (PySem.W.mroIn K C (.type "BaseException") == some true && PySem.W.mroIn K C (.type "object") == some true)))))
theorem zC3 {K:PySem.W.Frag}{C:Addr}(h:clsB K C=true):ClsE K C:=by
 simp only[clsB,xg,xA]at h
 exact⟨h.1,h.2.1,h.2.2.1,h.2.2.2.1,h.2.2.2.2.1,h.2.2.2.2.2.1,h.2.2.2.2.2.2⟩
noncomputable def noaB (K:PySem.W.Frag) (C:Addr) (f:Str):Bool:=PySem.W.findIn K (.ref C) f == some none
noncomputable def clxB (K:PySem.W.Frag) (C:Addr):Bool:=clsB K C && (PySem.W.findIn K (.ref C) "__class__" == some (some (.builtin "object.__class__")) && (PySem.W.specialIn K (.builtin "object.__class__") "__get__" == some (some (.builtin "getset_descriptor.__get__")) && PySem.W.takesIn K (.builtin "object.__class__") == some true))
theorem zFq {K:PySem.W.Frag}{C:Addr}(h:clxB K C=true):ClsX K C:=by
 simp only[clxB,xg,xA]at h
 exact⟨zC3 h.1,h.2.1,h.2.2.1,h.2.2.2⟩
noncomputable def clnB (X:Cx) (K:PySem.W.Frag) (x:Str) (C:Addr):Bool:=glB X x && (!(x == ("__debug__":Str)) && PySem.W.nsIn K mainGlobals x == some (some (.ref C)))
theorem zBa {X:Cx}{K:PySem.W.Frag}{x:Str}{C:Addr}(G:Gd K X.mg) (h:clnB X K x C=true):Gl X x/\(x == ("__debug__":Str))=false/\X.mg x=some (.ref C):=by
 simp only[clnB,xg,x5,xA]at h
 exact⟨zDf h.1,h.2.1,G.a _ _ h.2.2⟩
structure CalX (P:Program) (w:World) (K:PySem.W.Frag) (mg:Str->Option Value) (base:Heap) (x:Str) (k:Nat) (ps:List Str) (F:DS.Fn):Prop where
 ex:∃f fd,FnOk P w K mg base (CXE P w) k f fd ps (spX K F)/\mg x=some (.ref f)/\PySem.W.keepIn K (.ref f)=true/\Binds K fd ps []
structure IniX (P:Program) (w:World) (K:PySem.W.Frag) (mg:Str->Option Value) (base:Heap) (C:Addr) (fl:Str):Prop where
 ex:∃f fd s0 x0,FnOk P w K mg base CX0 1 f fd [s0,x0] (spI K fl)/\Binds K fd [s0,x0] []/\zEp K C f [.type "ValueError",.type "Exception",.type "BaseException",.type "object"] "ValueError.__new__"=true
section
variable {P:Program}{w:World}{K:PySem.W.Frag}{mg:Str->Option Value}{base:Heap}
noncomputable abbrev iO (q:Str) (tq:Stmt) (pm:Value) (cd:Addr):Obj:=⟨.type "function",none,.func (PySem.W.fnOf "__init__" q (zAo tq) (zAc tq) (zA4 tq) .none .none .none pm none (.ref cd) .none),#[]⟩
noncomputable def iniB (tq:Stmt) (s0 x0 fl:Str):Bool:=(match zAc tq with
 | [.Assign [.Attribute (.Name a _) g _] (.Name b _) _]=>a == s0 && (b == x0 && g == fl)
 | _=>false) && (visB ((zA4 tq).names.lookup s0) && (visB ((zA4 tq).names.lookup x0) && (!(s0 == ("__debug__":Str)) && (!(x0 == ("__debug__":Str)) && (!(s0 == ("__classdict__":Str)) && !(x0 == ("__classdict__":Str)))))))
theorem zNr (f cd C:Addr) (q:Str) (tq:Stmt) (pm:Value) (s0 x0 fl:Str) (l:K.lookup f=some (iO q tq pm cd)) (c:(PySem.W.codeIn K (.ref cd) q && (PySem.W.keepIn K (.ref f) && (scB [s0,x0] [s0,x0] (zA4 tq) && (iniB tq s0 x0 fl && zEp K C f [.type "ValueError",.type "Exception",.type "BaseException",.type "object"] "ValueError.__new__"))))=true)
  (bd:∀(kV doc pm:Value) (an:Option Addr) (cdv ct:Value) (us:List Value),us.length=[s0,x0].length->bindArgs (PySem.W.fnOf "__init__" q (zAo tq) (zAc tq) (zA4 tq) .none kV doc pm an cdv ct) ⟨us,[]⟩=pure ([s0,x0].zip us)):IniX P w K mg base C fl:=by
 simp only[xg]at c
 obtain⟨c1,c2,c3,c4,c5⟩:=c
 have F:Fun K "__init__" q tq f _:=zLh l c1 c2
 simp only[iniB,xg,x5]at c4
 obtain⟨b0,v0,v1,d0,d1,e0,e1⟩:=c4
 split at b0
 ·rename_i a p1 g p2 b p3 p4 hb
  simp only[xg,xA]at b0
  obtain⟨rfl,rfl,rfl⟩:=b0
  exact⟨f,_,_,_,zNq F (zDa c3) hb (zD1 v0) (zD1 v1) d0 d1 e0 e1,F.binds bd,c5⟩
 ·cases b0
end
section
variable {X:Cx}{K:PySem.W.Frag}{E:XE}{e c:Expr}{es:List Expr}{x:Str}{p pos:Pos}{k:Nat}{ps:List Str}{F:DS.Fn}{am:DS.AM}{m mc:DS.EM}{ms:DS.SM}
theorem zQt {f:Str}{l:List Nat}(h:(nba e && l.all fun C=>clsB K C && noaB K C f)=true) (he:DE X K E e m) (hK:X.K=K:=by rfl) (hb:attributeBase e f X.env (eval e X.env)=eval e X.env:=by rfl):DE X K E (.Attribute e f pos) (DS.eFld (DS.inC l) f m):=by
 simp only[xg,xI]at h
 exact zR8 (fun C hC=>by
  have:=h.2 C (zLf hC)
  exact⟨zC3 this.1,by simpa[noaB,NoAttr]using this.2⟩) he hb hK
noncomputable def isxB (X:Cx) (K:PySem.W.Frag) (e:Expr) (cv:Value) (l:List (Nat × Bool)):Bool:=nst e && (glB X "isinstance" && (PySem.W.nsIn K mainGlobals "isinstance" == some none && l.all fun q=>clxB K q.1 && PySem.W.kitOne K (.ref q.1) cv == some q.2))
theorem zCy (G:Gd K X.mg) {cn:Str}{p2:Pos}(Cc:Addr) {l:List (Nat × Bool)}(h:(clnB X K cn Cc && isxB X K e (.ref Cc) l)=true) (he:DE X K E e m) (hK:X.K=K):DE X K E (.Call (.Name "isinstance" p) [e,.Name cn p2] [] pos) (DS.eIsX (DS.lkC l) m):=by
 simp only[isxB,xg,xA,xI]at h
 obtain⟨h0,h1,h2,h3,h4⟩:=h
 have y:=zBa G h0
 exact zLp (y:=.ref Cc) (fun C b hC=>by
  have:=h4 _ (zLd hC)
  exact⟨zFq this.1,this.2⟩) (fun u r=>r) (zDf h2) (G.z _ h3) PyProof.Rows.boot_isinstance he (zJx (v:=.ref Cc) y.1 y.2.2 rfl y.2.1) (by simp[h1];rfl) hK
theorem zOr:bootBuiltins "ValueError"=some (.type "ValueError"):=by kernel_rfl
theorem zQs (G:Gd K X.mg) {cn:Str}{p2:Pos}(T:String) {l:List (Nat × Bool)}(hv:bootBuiltins cn=some (.type T)) (h:(zIx X cn [] && (PySem.W.nsIn K mainGlobals cn == some none && isxB X K e (.type T) l))=true) (he:DE X K E e m) (hK:X.K=K):DE X K E (.Call (.Name "isinstance" p) [e,.Name cn p2] [] pos) (DS.eIsX (DS.lkC l) m):=by
 simp only[isxB,xg,xA,xI]at h
 obtain⟨h0,hz,h1,h2,h3,h4⟩:=h
 have y:=zCh h0
 exact zLp (y:=.ty T) (fun C b hC=>by
  have:=h4 _ (zLd hC)
  exact⟨zFq this.1,this.2⟩) (fun u r=>r) (zDf h2) (G.z _ h3) PyProof.Rows.boot_isinstance he (zK1 (v:=.ty T) y.1 (G.z _ hz) hv rfl y.2.2.1 y.2.1) (by simp[h1];rfl) hK
end
end L2
namespace L2
open PySem PySem.Spec PyProof.Rows
section
variable {prog:Program}{w:World}{A:Around}{E:Value->Shared->Prop}{h:Heap}{g:Array GenState}{d:Drawn}{t:Nat}{os:OsState}
variable {nm q:Str}{C N:Addr}{bs bm bmB:List Value}{hdct:Bool}{sn:List Str}{sub:List Value}{ab:Bool}{col:Option Bool}{dd:Option Addr}{k0 k1 k2 k3 k5:Option Value}{B newId initId:String}
theorem zCk (F:ExcBaseFacts B newId initId bmB) (T:OwnTail h bmB bm) {mN:Str->Option Value}{Q:Fin->Shared->Prop}
  (hC:h.get? C=some (excClassObj nm q C N bs bm hdct sn sub ab col dd k0 k1 k2 k3 k5 newId)) (hn:h.Ns N mN) (hi:mN "__init__"=none)
  (hq:∀h',Heap.MadeExcOf h h' (h.objs.size+1) (.ref C) []->Q (.done (.ret (.ref (h.objs.size+1)))) ⟨h',g,d,t,os⟩):
  wpAny (model prog w) A (Builtin.«type.__call__» ⟨[.ref C],[]⟩) Q E ⟨h,g,d,t,os⟩:=by
 repeat (first|with_reducible refine vd hC ?_|with_reducible refine wpAny_madeBy_exc hC ?_|wp_step)
 refine codeAny_call_builtin_code (Code.quiet_builtin _ F.quiet) (wpAny_check_new_subT F T hC ?_)
 refine codeAny_exc_new_subT F T hC ?_ (by show 0<=sizeLine;decide)
 show wpAny _ _ _ _ _ _
 generalize hoT:({ cls:=.type "tuple",data:=.seq ([]:List Value).toArray }:Obj)=oT
 generalize hoE:({ cls:=.ref C,data:=.fields #[.ref h.objs.size,.none,.none,.none,.bool false,.none] }:Obj)=oE
 have fT:oT.isFreed=false:=by rw[<- hoT];rfl
 have fE:oE.isFreed=false:=by rw[<- hoE];rfl
 have kp:∀b o,h.get? b=some o->((h.push oT).push oE).get? b=some o:=fun b o e=>xl _ (xl _ e)
 have hC1:=kp _ _ hC
 have hn1:((h.push oT).push oE).Ns N mN:=let ⟨o,es,ep,e,r⟩:=hn;⟨o,es,ep,kp _ _ e,r⟩
 have hget:((h.push oT).push oE).get? (h.objs.size+1)=some oE:=by
  have:=xv (h.push oT) fE
  rwa[xX]at this
 have hcE:oE.cls=.ref C:=by rw[<- hoE]
 have hcC:(Value.ref C::bm).contains (.ref C)=true:=by simp
 have T1:=T.keeps kp
 unfold isInstance
 repeat (first|(with_reducible refine vd hget ?_;rw[hcE])|(with_reducible refine wpAny_isSubtype_exc hC1 ?_;rw[hcC])|wp_step)
 show wpAny _ _ (typeLookup (.ref C) _) _ _ _
 refine wpAny_typeLookup_tail hC1 hn1 T1 F.mroIs F.init.lookup ?_
 rw[hi]
 refine xx (xa (wpAny_of_eq (F.init.bind _) ?_))
 subst hoE
 subst hoT
 refine xa (wpAny_call (codeAny_call_builtin F.init.plain F.initEntry (wpAny_check_init_subT F T1 hC1 hget rfl ?_)))
 wp_walk
 refine hq _ ⟨fun b o hb=>?_,vF (vm _),h.objs.size+2,?_,vF (by omega),?_⟩
 ·rw[xQ _ _ (Nat.ne_of_gt (Nat.lt_succ_of_lt (xi hb)))];exact xl _ (kp b o hb)
 ·rw[vJ _ (xl _ hget) rfl];simp only[xX];rfl
 ·rw[xQ _ _ (show h.objs.size+1≠h.objs.size+2 by omega)];exact Heap.get?_push_at (by simp only[xX]) rfl
theorem zIu (F:ExcBaseFacts B newId initId bmB) (T:OwnTail h bmB bm) {mN:Str->Option Value}{Q:Value->Shared->Prop}
  (hC:h.get? C=some (excClassObj nm q C N bs bm hdct sn sub ab col dd k0 k1 k2 k3 k5 newId)) (hn:h.Ns N mN) (hi:mN "__init__"=none)
  (hq:∀h',Heap.MadeExcOf h h' (h.objs.size+1) (.ref C) []->Q (.ref (h.objs.size+1)) ⟨h',g,d,t,os⟩):
  wpAny (model prog w) A (call (.ref C) []) Q E ⟨h,g,d,t,os⟩:=by
 have f1:=tc_lookup
 have f2:=tc_bind (.ref C)
 have hT:(⟨h,g,d,t,os⟩:Shared).TypeIs (.ref C) "type":=⟨_,hC,rfl⟩
 refine wpAny_call (codeAny_of_tree ?_)
 show wpAny _ _ (callAny (.ref C) _) _ _ _
 repeat (any_goals (first|assumption|with_reducible refine vd hC ?_|wp_step))
 refine⟨rfl,?_⟩
 exact codeAny_call_builtin_at (Code.quiet_builtin _ (by decide +kernel)) entry_typeCall (wpAny_check_type_call_sub hC (zCk F T hC hn hi fun h' hm=>hq h' hm))
end
noncomputable def zCx (K:PySem.W.Frag) (C:Addr) (bmB:List Value) (newId:String):Bool:=match K.lookup C with
 | some ⟨.type "type",_,.cls cd,sl⟩=>(match cd.mro,sl.toList with
  | .ref C'::bm,[_,_,_,_,some (.builtin n),_]=>C' == C && n == newId && !cd.hasDel && PySem.W.tailIn K bmB bm && PySem.W.nsOkIn K cd.ns && PySem.W.nsIn K cd.ns "__init__" == some none
  | _,_=>false)
 | _=>false
theorem zS4 {K:PySem.W.Frag}{h:Heap}{N:Addr}{mN:Str->Option Value}{n:Str}(X:K.In h) (G:h.Ns N mN) (e:PySem.W.nsIn K N n=some none):mN n=none:=by
 obtain⟨ob,es,ep,at_,dt,-,fd⟩:=G
 unfold PySem.W.nsIn at e;split at e
 ·rename_i lk
  have z:=X _ _ lk;rw[at_]at z;cases z;cases dt
  split at e
  ·cases e
  ·rename_i fnd
   rw[<- fd,nsFind,findBy,<- Array.find?_toList,fnd];rfl
 ·cases e
theorem zI8 {K:PySem.W.Frag}{h:Heap}{C:Addr}{bmB:List Value}{newId:String}(X:K.In h) (q:zCx K C bmB newId=true):
  ∃bm N nm qn bs hd sn sub ab col dd k0 k1 k2 k3 k5,h.get? C=some (excClassObj nm qn C N bs bm hd sn sub ab col dd k0 k1 k2 k3 k5 newId)/\h.Ns N (h.nsMap N)/\h.nsMap N "__init__"=none/\OwnTail h bmB bm:=by
 unfold zCx at q
 split at q
 ·rename_i dd cd sl ho
  split at q
  ·rename_i C' bm k0 k1 k2 k3 n k5 hm hs
   simp only[xg,xA,x5]at q
   obtain⟨⟨⟨⟨⟨rfl,rfl⟩,hdel⟩,ht⟩,hok⟩,hni⟩:=q
   obtain⟨nm,bs,mro,ns,qn,hd,sn,sub,ab,col,del⟩:=cd
   dsimp only at hm hdel hok hni
   subst hm hdel
   obtain⟨l⟩:=sl
   simp only at hs
   subst hs
   have hn:h.Ns ns (h.nsMap ns):=.of_isNs (PySem.W.isNs_of_in X hok)
   exact⟨bm,ns,nm,qn,bs,hd,sn,sub,ab,col,dd,k0,k1,k2,k3,k5,X _ _ ho,hn,zS4 X hn hni,PySem.W.tail_of_in X ht⟩
  ·cases q
 ·cases q
section
variable {X:Cx}{C:Addr}{x:Str}{p pos:Pos}{B newId initId:String}{bmB:List Value}
theorem zJb {pins:List (Addr × Obj)}{σ:St}{H:Hp}{s:Shared}{Q:VK}(FB:ExcBaseFacts B newId initId bmB) (M:zCx X.K C bmB newId=true) (I:Inv X pins σ H s) (h:∀a,H a=none->Q (.ref a) (upd H a (.ext (XO a C none true)))):
  wpAny (model X.prog X.w) X.A (call (.ref C) []) (EP X pins σ Q) X.xe s:=by
 obtain⟨bm,N,nm,qn,bs,hd,sn,sub,ab,col,dd,k0,k1,k2,k3,k5,hC,hn,hi,T⟩:=zI8 I.kIn M
 refine zIu FB T hC hn hi fun h' m=>?_
 obtain⟨tt,ht,_,_⟩:=m.there
 exact⟨.ref (s.heap.objs.size+1),_,I.laid (t':=s.toks) m.keeps (vm _) (XO.ok ⟨_,_,ht,(show 1<6 by decide),fun _=>rfl⟩),rfl,h _ (I.hok.fresh (vm _))⟩
noncomputable def zRn (C:Addr):TE:=fun _ H Q=>∀a,H a=none->Q (.ref a) (upd H a (.ext (XO a C none true)))
theorem zHh (FB:ExcBaseFacts B newId initId bmB) (M:zCx X.K C bmB newId=true) (hg:Gl X x) (hm:X.mg x=some (.ref C)) (hk:PySem.W.keepIn X.K (.ref C)=true) (hdb:(x == ("__debug__":Str))=false:=by decide):
  PE X (.Call (.Name x p) [] [] pos) (zRn C):=by
 intro pins s σ H Q I h
 refine vp (zCb I hg hm ?_ hdb)
 exact PySem.W.callWith_K0 I.kIn hk (zJb FB M I h)
end
noncomputable abbrev TBx:=St->Hp->(Addr->Hp->Prop)->Prop
noncomputable def PBx (X:Cx) (b:List Stmt) (t:TBx):Prop:=∀(pins:List (Addr × Obj)) (s:Shared) (σ:St) (H:Hp) (R:Addr->Hp->Prop),Inv X pins σ H s->t σ H R->wpAny (model X.prog X.w) X.A (execs b X.env) (fun _ _=>False) (XPost X pins σ R) s
section
variable {X:Cx}{e c:Expr}{te:TE}{tc:TT}{b b':List Stmt}{t u:TBx}{pos:Pos}
theorem PBx.imp {t':TBx}(h:PBx X b t) (k:∀σ H R,t' σ H R->t σ H R):PBx X b t':=fun pins s σ H R I q=>h pins s σ H R I (k σ H R q)
theorem zDs (he:∀Z,PE (X.wish Z) e te) (hc:X.calm=true):PBx X [.Raise (some e) none pos] (fun σ H R=>te σ H fun x H1=>∃a C dx,x=.ref a/\H1 a=some (.ext (XO a C dx true))/\zDz X.K C=true/\R a H1):=by
 intro pins s σ H R I h
 refine wpAny_execs_cons ?_
 rw[arm_exec_Raise]
 refine xa (vf ?_)
 simp only[evalOpt,Option.map]
 unfold raiseStmt
 dsimp only
 refine xa (xa (thn (he (XPost X pins σ R) pins s σ H _ (I.wish _) h) fun u s1 ⟨x,H1,I1,rx,a,C,dx,ex,ea,hsub,z⟩=>xa (vf (xf ?_))))
 subst ex
 obtain rfl:u=Value.ref a:=rx
 have I1:=I1.unwish
 obtain⟨⟨vs,sl,ha,hz,hf⟩,_⟩:=I1.hok a _ ea
 have hf:=hf rfl
 obtain⟨bm,N,nm,qn,bs,hd,sn,sub,ab,col,dd,k0,k1,k2,k3,k5,newId,hC,hB⟩:=zI9 I1.kIn hsub
 have hcB:(Value.ref C::bm).contains (.type "BaseException")=true:=by rw[List.contains_cons,hB,Bool.or_true]
 have fin:XPost X pins σ R (.ref a) s1:=⟨a,H1,rfl,FlyI.new I1 ea,z⟩
 obtain⟨hp,g,d,tk,os⟩:=s1
 repeat (first|with_reducible refine vd ha ?_|with_reducible refine vd hC ?_|(with_reducible refine wpAny_isSubtype_exc hC ?_;rw[hcB])|wp_step)
 rw[hf]
 refine xf ?_
 rw[xc (by decide)]
 exact xf (wpAny_raiseNew_none (I.ok.hd hc) fin)
theorem zPx (hc:∀Z,PT (X.wish Z) c tc) (hb:PBx X b t) (hr:PBx X b' u):PBx X (.If c b [] pos::b') (fun σ H R=>tc σ H fun k H1=>if k=true then t σ H1 R else u σ H1 R):=by
 intro pins s σ H R I h
 refine wpAny_execs_cons (wpAny_If (thn (hc (XPost X pins σ R) pins s σ H _ (I.wish _) h) fun d s1 hq1=>?_))
 obtain⟨H1,I1,q1⟩:=hq1
 cases d with
 | true=>exact xw (hb pins s1 σ H1 R I1.unwish q1) (fun _ _ z=>z.elim) fun _ _ z=>z
 | false=>exact vG (hr pins s1 σ H1 R I1.unwish q1)
noncomputable def zRm (K:PySem.W.Frag) (Cc:Addr) (j:Nat) (t:TBx) (ts:TS):TS:=fun D σ H=>t σ H fun a H1=>∃C dx fr,H1 a=some (.ext (XO a C dx fr))/\PySem.W.exmOne K (.ref C) (.ref Cc)=some true /\
 ts { nx:=fun σ' H'=>D.nx (σ'.set j none) H',rt:=fun _ _=>False } (σ.set j (some (.ref a))) (upd H1 a (.ext (XO a C dx false)))
theorem zMh {j:Nat}{n cn:Str}{Cc:Addr}{ts:TS}{b0:Stmt}{suite:List Stmt}{np hp:Pos}(ow:Own X) (hN:X.N.Nodup) (he:PBx X b t)
  (hj:X.N[j]?=some n) (hnl:X.env.scope.names.lookup n=some .local) (hg:Gl X cn) (hm:X.mg cn=some (.ref Cc)) (hsu:∀a Z,PSs (X.handl (.ref a) Z) (b0::suite) ts) (hdb:(cn == ("__debug__":Str))=false:=by decide):
  PS X (.Try b [.ExceptHandler (some (.Name cn np)) (some n) (b0::suite) hp] [] [] pos) (zRm X.K Cc j t ts):=by
 intro pins s σ H D I h
 refine wpAny_Try_except ?_
 refine xw (he pins s σ H _ I h) (fun fl s1 hq=>hq.elim) fun ex s1 hq=>?_
 obtain⟨a,H1,rfl,⟨I1,C,dx,_,vs,sl,old,_,ha,tb,oo⟩,_,_,fr,ea,hcl,hts⟩:=hq
 obtain⟨⟨vs2,sl2,ha2,hz,_⟩,_⟩:=I1.hok a _ ea
 rw[ha]at ha2
 cases ha2
 have hne:s1.heap.objs.size≠a:=Nat.ne_of_gt (xi ha)
 refine zK4 (base:=X.base) (old:=old) (by rw[I1.ok.frames,ow.1]) (by have:=I1.stack;rwa[ow.1]at this) ow.2 ha rfl tb fun h' Nn=>?_
 have J:=I1.noted ow ea (by rw[ow.1];exact Nn) oo
 have ex:=Nn.exc _ vs ha rfl
 obtain⟨oT,tts,hT,hdT,h3⟩:=Nn.tb
 have hTn:upd H1 a (.ext (XO a C dx false)) s1.heap.objs.size=none:=by rw[zA3 hne];exact I1.hok.fresh (xh _)
 obtain⟨_,f1,_,f3,f4,f5⟩:=I1.fpOk (xh _) hTn
 refine wpAny_handleBy_cons (codeAny_handlers_test (zCb (X:=X.handl (.ref a) X.xe) J.handl hg hm ?_ hdb)) (by intro q;cases q)
 refine PySem.W.Looks.here (PySem.W.exm_one J.kIn (zOx ex) hcl) ?_
 show codeAny _ _ _ _ _
 refine codeAny_handlers_suite_as (zI3 ex rfl (by simp[hz]) hT hdT h3 fun h2 sb=>?_)
 have J2:Inv X pins σ (upd H1 a (.ext (XO a C dx false))) { s1 with heap:=h2 }:=J.turned (t':=s1.toks) (fun b o hb q=>(sb.2 b hb).trans q) hTn f1 f3 f4 f5
 refine zBg J2 hN hj (.inl hnl) (v:=.ref a) rfl (fun s3 I3=>?_) (.inr hnl)
 refine xw (hsu a _ pins s3 _ _ _ I3.handl hts) (fun fl s4 q=>?_) fun _ _ z=>z
 cases fl with
 | next=>
  obtain⟨σ',H',I4,q⟩:=q
  have I5:=I4.unhandl I.ok
  obtain⟨m,hm',_⟩:=I5.loc
  exact wpAny_nameGoes_keeps hnl hm' (by rw[I.ok.kind];rfl) fun h5 v hv sb5=>⟨_,H',I5.unset hN hj hm' hv sb5,q⟩
 | ret u=>obtain⟨_,_,_,_,_,q⟩:=q;exact q.elim
 | brk=>obtain⟨_,_,_,q⟩:=q;exact q.elim
 | cont=>obtain⟨_,_,_,q⟩:=q;exact q.elim
end
end L2
namespace L2
open PySem PySem.Spec PyProof.Rows
open DS (D Store Exn Rs SR)
noncomputable def tbOf (K:PySem.W.Frag) (m:DS.EM):TBx:=fun σ H R=>∃env S J,AbS K J S H/\RepE K J H env σ/\Post K XE0 J H (m env S) (fun d _ J' H'=>∀(a:Addr) (H1:Hp) (C:Nat) (dx:Option Addr) (fr:Bool),H1 a=some (.ext (XO a C dx fr))->upd H1 a (.ext (XO a C dx false))=H'->(∃l,d=.st (.int C::l))->Rep K J' H' d (.ref a)->R a H1)
structure DBx (X:Cx) (K:PySem.W.Frag) (b:List Stmt) (m:DS.EM):Prop where h:PBx X b (tbOf K m)
section
variable {K:PySem.W.Frag}{J:Js}{S:Store}{H1:Hp}{a dx C:Addr}{fl:Str}{d:D}{y:V}
theorem new_exc (fr:Bool) (a1:AbS K J S H1) (na:H1 a=none) (ndx:H1 dx=none) (hne:dx≠a) (ry:Rep K J H1 d y) {H4:Hp}(k4:∀b o,H1 b=some o->H4 b=some o) (ea:H4 a=some (.ext (XO a C (some dx) fr))) (ed:H4 dx=some (.xd [(fl,y)])):
  AbS K J S H4/\Grow J H1 J H4/\Rep K J H4 (.st [.int C,.str fl,d]) (.ref a):=
 ⟨a1.more k4,.of k4,a,C,some dx,fr,[(fl,y)],rfl,a1.out na,ea,.inr ⟨dx,rfl,a1.out ndx,ed⟩,rfl,y,[],rfl,Rep.grow (.of k4) d y ry,rfl⟩
theorem zFb (fr:Bool) (a1:AbS K J S H1) (na:H1 a=none) {H4:Hp}(k4:∀b o,H1 b=some o->H4 b=some o) (ea:H4 a=some (.ext (XO a C none fr))):AbS K J S H4/\Grow J H1 J H4/\Rep K J H4 (.st [.int C]) (.ref a):=
 ⟨a1.more k4,.of k4,a,C,none,fr,[],rfl,a1.out na,ea,.inl ⟨rfl,rfl⟩,rfl,rfl⟩
end
section
variable {X:Cx}{K:PySem.W.Frag}{E:XE}{e c:Expr}{es:List Expr}{am:DS.AM}{m m':DS.EM}{mt:DS.TM}{ms:DS.SM}{b b':List Stmt}{p pos pos':Pos}{cn fl:Str}{C:Nat}
theorem zLc {ds:List D}{d0:D}(h:DS.mkX C fl ds=some d0):∃d,ds=[d]/\d0=.st [.int C,.str fl,d]:=by
 unfold DS.mkX at h
 split at h
 ·cases h;exact⟨_,rfl,rfl⟩
 ·cases h
theorem zQu (I:IniX X.prog X.w K X.mg X.base C fl) (hr:Room 2 X.A) (G:Gd K X.mg) (h:(nst e && (clnB X K cn C && (PySem.W.keepIn K (.ref C) && (clsB K C && noaB K C fl))))=true) (ha:DA X K E [e] am) (hK:X.K=K):DE X K E (.Call (.Name cn p) [e] [] pos) (DS.eExc (DS.mkX C fl) am):=by
 subst hK
 simp only[xg]at h
 obtain⟨h0,h1,h2,h3,h4⟩:=h
 have yy:=zBa G h1
 obtain⟨fI,fd,s0,x0,F,hb,M⟩:=I.ex
 refine⟨SE.imp ⟨zL6 (E:=E0) vR M F hr hb pass0 yy.1 yy.2.2 h2 ha.h.h yy.2.1 (zAr h0) rfl⟩ ?_⟩
 intro σ H0 Q hq32
 obtain⟨env,S,J,hab,hen,q⟩:=hq32
 refine⟨env,S,J,hab,hen,q.bind.imp fun ds S1 J1 H1 _ a1 g1 q1 vs rv=>?_⟩
 obtain⟨d0,ed0,k⟩:=q1.lift
 obtain⟨d,rfl,rfl⟩:=zLc ed0
 obtain⟨y,r,rfl,ry,er⟩:=rv
 obtain rfl:r=[]:=er
 refine⟨by show 1<=1000;decide,fun a na=>⟨a,y,C,rfl,zA5,zC3 h3,by simpa[noaB,NoAttr]using h4,fun dx ndx hne=>⟨rfl,?_⟩⟩⟩
 have ndx1:H1 dx=none:=by rwa[zA3 hne]at ndx
 obtain⟨x1,x2,x3⟩:=new_exc true a1 na ndx1 hne ry (H4:=upd (upd (upd H1 a (.ext (XO a C none true))) a (.ext (XO a C (some dx) true))) dx (.xd [(fl,y)])) (fun b o eb=>by rw[zA3 (zA2 eb ndx1),zA3 (zA2 eb na),zA3 (zA2 eb na)];exact eb) (by rw[zA3 (xk hne)];exact zA5) zA5
 exact k J1 _ x1 x2 _ x3
theorem zO6 (G:Gd K X.mg) (h:(clnB X K cn C && (PySem.W.keepIn K (.ref C) && zCx K C [.type "ValueError",.type "Exception",.type "BaseException",.type "object"] "ValueError.__new__"))=true) (hK:X.K=K):DE X K E (.Call (.Name cn p) [] [] pos) (DS.eExc (DS.mkX0 C) DS.aNil):=by
 subst hK
 simp only[xg]at h
 have yy:=zBa G h.1
 refine⟨SE.imp ⟨zHh vR h.2.2 yy.1 yy.2.2 h.2.1 yy.2.1⟩ ?_⟩
 intro σ H0 Q hq33 a na
 obtain⟨env,S,J,hab,hen,q⟩:=hq33
 obtain⟨x1,x2,x3⟩:=zFb (C:=C) true hab na (H4:=upd H0 a (.ext (XO a C none true))) (fun b o eb=>by rw[zA3 (zA2 eb na)];exact eb) zA5
 exact q J _ x1 x2 _ x3
theorem zIi (I:IniX X.prog X.w K X.mg X.base C fl) (hr:Room 2 X.A) (G:Gd K X.mg) (h:(X.calm && (nst e && (clnB X K cn C && (PySem.W.keepIn K (.ref C) && (clsB K C && (noaB K C fl && zDz K C))))))=true) (ha:DA X.nox K XE0 [e] am) (hK:X.K=K):DBx X K [.Raise (some (.Call (.Name cn p) [e] [] pos)) none pos'] (DS.eExc (DS.mkX C fl) (DS.neR am)):=by
 subst hK
 simp only[xg]at h
 obtain⟨hc,h0,h1,h2,h3,h4,h5⟩:=h
 have yy:=zBa G h1
 obtain⟨fI,fd,s0,x0,F,hb,M⟩:=I.ex
 refine⟨(zDs (fun Z=>zL6 (X:=X.wish Z) (E:=E0) vR M F hr hb pass0 yy.1 yy.2.2 h2 (PA.nox (X:=X.wish Z) ha.h.h) yy.2.1 (zAr h0) rfl) hc).imp ?_⟩
 intro σ H0 R hq34
 obtain⟨env,S,J,hab,hen,q⟩:=hq34
 refine⟨env,S,J,hab,hen,(Post.ne q.bind).imp fun ds S1 J1 H1 _ a1 g1 q1 vs rv=>?_⟩
 obtain⟨d0,ed0,k⟩:=q1.lift
 obtain⟨d,rfl,rfl⟩:=zLc ed0
 obtain⟨y,r,rfl,ry,er⟩:=rv
 obtain rfl:r=[]:=er
 refine⟨by show 1<=1000;decide,fun a na=>⟨a,y,C,rfl,zA5,zC3 h3,by simpa[noaB,NoAttr]using h4,fun dx ndx hne=>⟨rfl,?_⟩⟩⟩
 have ndx1:H1 dx=none:=by rwa[zA3 hne]at ndx
 have h3:(upd (upd (upd H1 a (.ext (XO a C none true))) a (.ext (XO a C (some dx) true))) dx (.xd [(fl,y)])) a=some (.ext (XO a C (some dx) true)):=by rw[zA3 (xk hne)];exact zA5
 refine⟨a,C,some dx,rfl,h3,h5,?_⟩
 obtain⟨x1,x2,x3⟩:=new_exc false a1 na ndx1 hne ry (H4:=upd (upd (upd (upd H1 a (.ext (XO a C none true))) a (.ext (XO a C (some dx) true))) dx (.xd [(fl,y)])) a (.ext (XO a C (some dx) false))) (fun b o eb=>by rw[zA3 (zA2 eb na),zA3 (zA2 eb ndx1),zA3 (zA2 eb na),zA3 (zA2 eb na)];exact eb) zA5 (by rw[zA3 hne];exact zA5)
 exact k J1 _ x1 x2 a _ C (some dx) true h3 rfl ⟨_,rfl⟩ x3
theorem zGc (G:Gd K X.mg) (h:(X.calm && (clnB X K cn C && (PySem.W.keepIn K (.ref C) && (zDz K C && zCx K C [.type "ValueError",.type "Exception",.type "BaseException",.type "object"] "ValueError.__new__"))))=true) (hK:X.K=K):DBx X K [.Raise (some (.Call (.Name cn p) [] [] pos)) none pos'] (DS.eExc (DS.mkX0 C) DS.aNil):=by
 subst hK
 simp only[xg]at h
 obtain⟨hc,h1,h2,h5,h6⟩:=h
 have yy:=zBa G h1
 refine⟨(zDs (fun Z=>zHh (X:=X.wish Z) vR h6 yy.1 yy.2.2 h2 yy.2.1) hc).imp ?_⟩
 intro σ H0 R hq35 a na
 obtain⟨env,S,J,hab,hen,q⟩:=hq35
 refine⟨a,C,none,rfl,zA5,h5,?_⟩
 obtain⟨x1,x2,x3⟩:=zFb (C:=C) false hab na (H4:=upd (upd H0 a (.ext (XO a C none true))) a (.ext (XO a C none false))) (fun b o eb=>by rw[zA3 (zA2 eb na),zA3 (zA2 eb na)];exact eb) zA5
 exact q J _ x1 x2 a _ C none true zA5 rfl ⟨_,rfl⟩ x3
theorem zRa (hc:DT X.nox K XE0 c mt) (hb:DBx X K b m) (hr:DBx X K b' m'):DBx X K (.If c b [] pos::b') (DS.eIf (DS.neR mt) m m'):=
 ⟨(zPx (fun Z=>PT.nox (X:=X.wish Z) hc.h.h) hb.h hr.h).imp fun σ H R ⟨env,S,J,hab,hen,q⟩=>⟨env,S,J,hab,hen,(Post.ne q.bind).imp fun k S1 J1 H1 _ a1 g1 q1=>by
  cases k with
  | true=>exact⟨env,S1,J1,a1,hen.grow g1,q1⟩
  | false=>exact⟨env,S1,J1,a1,hen.grow g1,q1⟩⟩⟩
noncomputable def tryC (X:Cx) (K:PySem.W.Frag) (j:Nat) (n cn:Str) (Cc:Addr) (l:List Nat):Bool:=ndB X.N && (X.N[j]? == some n && (X.env.scope.names.lookup n == some .local && (clnB X K cn Cc && l.all fun C=>PySem.W.exmOne K (.ref C) (.ref Cc) == some true)))
theorem zO3 (G:Gd K X.mg) {j:Nat}{n cn:Str}(Cc:Addr) {b0:Stmt}{suite:List Stmt}{np hp:Pos}{l:List Nat}(h:tryC X K j n cn Cc l=true) (ow:Own X) (he:DBx X K b m) (hsu:∀a Z,DSs (X.handl (.ref a) Z) K XE0 (b0::suite) ms) (hK:X.K=K):
  DS1 X K E (.Try b [.ExceptHandler (some (.Name cn np)) (some n) (b0::suite) hp] [] [] pos) (DS.zH3 (DS.inC l) j m (DS.neS ms)):=by
 subst hK
 simp only[tryC,xg,xA,xI]at h
 obtain⟨h1,h2,h3,h4,h5⟩:=h
 have y:=zBa G h4
 refine⟨SS.imp ⟨zMh ow (zC9 h1) he.h h2 h3 y.1 y.2.2 (fun a Z=>(hsu a Z).h.h) y.2.1⟩ ?_⟩
 intro D σ H hq36
 obtain⟨env,S,J,hab,hen,q⟩:=hq36
 refine⟨env,S,J,hab,hen,?_⟩
 unfold DS.zH3 at q
 cases em:m env S with
 | bad=>rw[em]at q;exact q
 | ex x S'=>rw[em]at q;exact False.elim q
 | ok d S'=>
  rw[em]at q
  intro J' H' a1 g1 a H1 C dx fr ea eH hq37 r'
  obtain⟨l0,el⟩:=hq37
  subst el
  have q:PostS X.K E J H (if DS.inC l C=true then(match DS.neS ms (env.set j (some (.st (.int C::l0)))) S' with
   | .nx e S2=>.nx (e.set j none) S2
   | _=>.bad)else .bad) D:=q
  by_cases ic:DS.inC l C=true
  ·rw[xb ic]at q
   refine⟨C,dx,fr,ea,h5 C (zLf ic),?_⟩
   rw[eH]
   refine⟨_,S',J',a1,(hen.grow g1).set (d:=.st (.int C::l0)) r',?_⟩
   unfold DS.neS at q
   cases es:ms (env.set j (some (.st (.int C::l0)))) S' with
   | nx e2 S2=>
    rw[es]at q
    exact fun J2 H2 σ2 a2 g2 r2=>q J2 H2 _ a2 (g1.trans g2) r2.unset
   | ex x S2=>rw[es]at q;exact False.elim q
   | bad=>rw[es]at q;exact False.elim q
   | rt d S2=>rw[es]at q;exact False.elim q
   | bk d S2=>rw[es]at q;exact False.elim q
   | ct d S2=>rw[es]at q;exact False.elim q
  ·rw[xc ic]at q;exact False.elim q
end
end L2
namespace Law
open PySem PySem.Spec PyProof.Rows L2
noncomputable abbrev n_0:List Str:=["_law_script","_law_base","_law_cells","_law_number","_law_cell"]
noncomputable abbrev n_1:List Str:=["_law_deal_here","_law_letters","_law_some"]
noncomputable abbrev n_2:List Str:=["_law_k","_law_letters","_law_deal_here"]
noncomputable abbrev n_3:List Str:=["_law_script","_law_deal_here","_law_one","_law_other","_law_made","_law_beside","_law_some","_law_thing_here","_law_at"]
noncomputable abbrev n_4:List Str:=["_law_deal_here","_law_many","_law_number","_law_one","_law_other"]
noncomputable abbrev n_5:List Str:=["_law_at","_law_thing_here","_law_found","e"]
noncomputable def top (i:Nat):Stmt:=PySem.Challenge.pw_healfloor_k14_refusals_made.main.body.getD i (.Pass ⟨0,0,0,0⟩)
noncomputable def topc (i j:Nat):Stmt:=match top i with
 | .ClassDef _ _ _ b _ _ _ _ _ _ _=>b.getD j (.Pass ⟨0,0,0,0⟩)
 | _=>.Pass ⟨0,0,0,0⟩
noncomputable abbrev kD (P:Params) (l:List (Str × Tok × Value)):Array DictEntry:=(l.map fun x=>⟨PyData.keyHash P x.1,.str x.1 x.2.1,x.2.2⟩).toArray
noncomputable abbrev mA_:Value:=(.str "law_healfloor_k14_refusals_made" 314)
noncomputable abbrev cO (x f:Str) (t:Tok) (l n c:Int) (a:Addr) (g:Int) (v:List Value) (k:Int) (u:Tok):Obj:=⟨.type "code",none,.fields (([.str x t,.str x (t+1),.str f (t+2),.int l 0,.int n 0,.int 0 0,.int 0 0,.int c 0,.ref a,.bool true,.int g 0]:List Value)++v++([.int k 0,.int l 0,.str f u]:List Value)).toArray,#[]⟩
noncomputable abbrev mI_:Value:=(.str "healfloor.errors" 187)
noncomputable def KF (P:Params):PySem.W.Frag:=[
 (3,⟨(.type "dict"),none,(.dict (kD P [("__name__",165,(.str "law_healfloor_k14_refusals_made" 314)),("__doc__",166,.none),("__package__",167,.none),("__loader__",168,(.builtin "__main__.__loader__#opaque")),("__spec__",169,.none),("__annotations__",170,(.ref 6)),("__builtins__",171,(.ref 4)),("__file__",173,(.str "/claim/cut.py" 172)),("__cached__",174,.none),("FloorError",206,(.ref 24)),("NoName",231,(.ref 44)),("NoText",256,(.ref 63)),("TooMany",281,(.ref 82)),("NotPaper",297,(.ref 94)),("NoDeed",313,(.ref 106)),("_law_deal",321,(.ref 113)),("_law_draw",332,(.ref 120)),("_law_thing",338,(.ref 125)),("_law_sorts",346,(.ref 132)),("_law_due",352,(.ref 137)),("_law_raised",362,(.ref 144)),("law",368,(.ref 149))]) 22),#[]⟩),
 (112,cO "_law_deal" "/claim/cut.py" 316 21 2 3 109 181 [.ref 110,.none,.none,.none,.ref 111] 319 320),
 (113,fO "_law_deal" (top 8) mA_ 112),
 (119,cO "_law_draw" "/claim/cut.py" 322 27 2 3 114 181 [.ref 115,.none,.ref 116,.ref 117,.ref 118] 330 331),
 (120,fO "_law_draw" (top 9) mA_ 119),
 (124,cO "_law_thing" "/claim/cut.py" 333 38 1 3 121 181 [.ref 122,.none,.none,.none,.ref 123] 336 337),
 (125,fO "_law_thing" (top 10) mA_ 124),
 (131,cO "_law_sorts" "/claim/cut.py" 339 44 1 3 126 181 [.ref 127,.none,.ref 128,.ref 129,.ref 130] 344 345),
 (132,fO "_law_sorts" (top 11) mA_ 131),
 (136,cO "_law_due" "/claim/cut.py" 347 49 1 3 133 181 [.ref 134,.none,.none,.none,.ref 135] 350 351),
 (137,fO "_law_due" (top 12) mA_ 136),
 (143,cO "_law_raised" "/claim/cut.py" 353 51 2 3 138 181 [.ref 139,.none,.ref 140,.ref 141,.ref 142] 360 361),
 (144,fO "_law_raised" (top 13) mA_ 143),
 (148,cO "law" "/claim/cut.py" 363 67 1 3 145 181 [.ref 146,.none,.none,.none,.ref 147] 366 367),
 (149,fO "law" (top 14) mA_ 148),
 (24,⟨(.type "type"),none,(.cls { name:="FloorError",bases:=[(.type "ValueError")],mro:=[(.ref 24),(.type "ValueError"),(.type "Exception"),(.type "BaseException"),(.type "object")],ns:=23,qualname:="FloorError",hasDict:=true,slotNames:=[],subclasses:=[(.ref 44),(.ref 63),(.ref 82),(.ref 94),(.ref 106)],abstract:=false }),#[some (.ref 15),none,some (.str "FloorError" 189),some (.str "FloorError" 197),some (.builtin "ValueError.__new__"),some (.bool true)]⟩),
 (23,⟨(.type "dict"),none,(.dict (kD P [("__module__",196,(.str "healfloor.errors" 187)),("__firstlineno__",200,(.int (2) 199)),("__static_attributes__",201,(.ref 22)),("__weakref__",203,(.ref 25)),("__doc__",204,.none)]) 3),#[]⟩),
 (44,⟨(.type "type"),none,(.cls { name:="NoName",bases:=[(.ref 24)],mro:=[(.ref 44),(.ref 24),(.type "ValueError"),(.type "Exception"),(.type "BaseException"),(.type "object")],ns:=43,qualname:="NoName",hasDict:=true,slotNames:=[],subclasses:=[],abstract:=false }),#[some (.ref 28),none,some (.str "NoName" 207),some (.str "NoName" 215),some (.builtin "ValueError.__new__"),some (.bool true)]⟩),
 (43,⟨(.type "dict"),none,(.dict (kD P [("__module__",214,(.str "healfloor.errors" 187)),("__firstlineno__",218,(.int (4) 217)),("__init__",226,(.ref 41)),("__static_attributes__",228,(.ref 42)),("__doc__",229,.none)]) 2),#[]⟩),
 (63,⟨(.type "type"),none,(.cls { name:="NoText",bases:=[(.ref 24)],mro:=[(.ref 63),(.ref 24),(.type "ValueError"),(.type "Exception"),(.type "BaseException"),(.type "object")],ns:=62,qualname:="NoText",hasDict:=true,slotNames:=[],subclasses:=[],abstract:=false }),#[some (.ref 47),none,some (.str "NoText" 232),some (.str "NoText" 240),some (.builtin "ValueError.__new__"),some (.bool true)]⟩),
 (62,⟨(.type "dict"),none,(.dict (kD P [("__module__",239,(.str "healfloor.errors" 187)),("__firstlineno__",243,(.int (8) 242)),("__init__",251,(.ref 60)),("__static_attributes__",253,(.ref 61)),("__doc__",254,.none)]) 2),#[]⟩),
 (82,⟨(.type "type"),none,(.cls { name:="TooMany",bases:=[(.ref 24)],mro:=[(.ref 82),(.ref 24),(.type "ValueError"),(.type "Exception"),(.type "BaseException"),(.type "object")],ns:=81,qualname:="TooMany",hasDict:=true,slotNames:=[],subclasses:=[],abstract:=false }),#[some (.ref 66),none,some (.str "TooMany" 257),some (.str "TooMany" 265),some (.builtin "ValueError.__new__"),some (.bool true)]⟩),
 (81,⟨(.type "dict"),none,(.dict (kD P [("__module__",264,(.str "healfloor.errors" 187)),("__firstlineno__",268,(.int (12) 267)),("__init__",276,(.ref 79)),("__static_attributes__",278,(.ref 80)),("__doc__",279,.none)]) 2),#[]⟩),
 (94,⟨(.type "type"),none,(.cls { name:="NotPaper",bases:=[(.ref 24)],mro:=[(.ref 94),(.ref 24),(.type "ValueError"),(.type "Exception"),(.type "BaseException"),(.type "object")],ns:=93,qualname:="NotPaper",hasDict:=true,slotNames:=[],subclasses:=[],abstract:=false }),#[some (.ref 85),none,some (.str "NotPaper" 282),some (.str "NotPaper" 290),some (.builtin "ValueError.__new__"),some (.bool true)]⟩),
 (93,⟨(.type "dict"),none,(.dict (kD P [("__module__",289,(.str "healfloor.errors" 187)),("__firstlineno__",293,(.int (16) 292)),("__static_attributes__",294,(.ref 92)),("__doc__",295,.none)]) 2),#[]⟩),
 (106,⟨(.type "type"),none,(.cls { name:="NoDeed",bases:=[(.ref 24)],mro:=[(.ref 106),(.ref 24),(.type "ValueError"),(.type "Exception"),(.type "BaseException"),(.type "object")],ns:=105,qualname:="NoDeed",hasDict:=true,slotNames:=[],subclasses:=[],abstract:=false }),#[some (.ref 97),none,some (.str "NoDeed" 298),some (.str "NoDeed" 306),some (.builtin "ValueError.__new__"),some (.bool true)]⟩),
 (105,⟨(.type "dict"),none,(.dict (kD P [("__module__",305,(.str "healfloor.errors" 187)),("__firstlineno__",309,(.int (18) 308)),("__static_attributes__",310,(.ref 104)),("__doc__",311,.none)]) 2),#[]⟩),
 (41,iO "NoName.__init__" (topc 2 0) mI_ 40),
 (40,⟨(.type "code"),none,(.fields #[(.str "__init__" 219),(.str "NoName.__init__" 220),(.str "/claim/cut.py" 221),(.int (6) 0),(.int (2) 0),(.int (0) 0),(.int (0) 0),(.int (3) 0),(.ref 35),(.bool true),(.int (181) 0),(.ref 36),.none,(.ref 37),(.ref 38),(.ref 39),(.int (224) 0),(.int (6) 0),(.str "/claim/cut.py" 225)]),#[]⟩),
 (60,iO "NoText.__init__" (topc 3 0) mI_ 59),
 (59,⟨(.type "code"),none,(.fields #[(.str "__init__" 244),(.str "NoText.__init__" 245),(.str "/claim/cut.py" 246),(.int (10) 0),(.int (2) 0),(.int (0) 0),(.int (0) 0),(.int (3) 0),(.ref 54),(.bool true),(.int (181) 0),(.ref 55),.none,(.ref 56),(.ref 57),(.ref 58),(.int (249) 0),(.int (10) 0),(.str "/claim/cut.py" 250)]),#[]⟩),
 (79,iO "TooMany.__init__" (topc 4 0) mI_ 78),
 (78,⟨(.type "code"),none,(.fields #[(.str "__init__" 269),(.str "TooMany.__init__" 270),(.str "/claim/cut.py" 271),(.int (14) 0),(.int (2) 0),(.int (0) 0),(.int (0) 0),(.int (3) 0),(.ref 73),(.bool true),(.int (181) 0),(.ref 74),.none,(.ref 75),(.ref 76),(.ref 77),(.int (274) 0),(.int (14) 0),(.str "/claim/cut.py" 275)]),#[]⟩)]
noncomputable def view:Program:={ PySem.Challenge.pw_healfloor_k14_refusals_made with main:={ PySem.Challenge.pw_healfloor_k14_refusals_made.main with body:=[1,2,3,4,5,6,8,9,10,11,12,13,14].map top } }
noncomputable abbrev hk:PySem.W.Hook:=PySem.W.kHook KF [3,112,113,119,120,124,125,131,132,136,137,143,144,148,149,24,23,44,43,63,62,82,81,94,93,106,105,41,40,60,59,79,78] (fun _=>by kernel_rfl)
theorem left:PySem.W.LeftO PySem.Challenge.pw_healfloor_k14_refusals_made view [] (fun s=>PySem.W.xlAt view [] s && PySem.W.recOk [] s) (PySem.W.Hook.obs hk) (PySem.W.Hook.val hk) 3254:=fun w=>by kernel_rfl
noncomputable abbrev CC (x:Str) (k:Nat) (ps:List Str) (F:DS.Fn):Prop:=∀{w:World}{mg:Str->Option Value}{base:Heap},Gd (KF w.params) mg->Cal PySem.Challenge.pw_healfloor_k14_refusals_made w (KF w.params) mg base x k ps (spOf (KF w.params) XE0 F)
noncomputable abbrev CE (x:Str) (k:Nat) (ps:List Str) (F:DS.Fn):Prop:=∀{w:World}{mg:Str->Option Value}{base:Heap},Gd (KF w.params) mg->CalX PySem.Challenge.pw_healfloor_k14_refusals_made w (KF w.params) mg base x k ps F
theorem zKh {w:World}{mg:Str->Option Value}{base:Heap}:IniX PySem.Challenge.pw_healfloor_k14_refusals_made w (KF w.params) mg base 44 "name":=by
 apply zNr 41 40 44 "NoName.__init__" (topc 2 0) mI_ "self" "name"
 all_goals (first|kernel_rfl!|(intro _ _ _ _ _ _ us hl;obtain⟨_,_,rfl⟩:=len2 hl;rfl))
theorem zKg {w:World}{mg:Str->Option Value}{base:Heap}:IniX PySem.Challenge.pw_healfloor_k14_refusals_made w (KF w.params) mg base 63 "row":=by
 apply zNr 60 59 63 "NoText.__init__" (topc 3 0) mI_ "self" "row"
 all_goals (first|kernel_rfl!|(intro _ _ _ _ _ _ us hl;obtain⟨_,_,rfl⟩:=len2 hl;rfl))
theorem zHw {w:World}{mg:Str->Option Value}{base:Heap}:IniX PySem.Challenge.pw_healfloor_k14_refusals_made w (KF w.params) mg base 82 "many":=by
 apply zNr 79 78 82 "TooMany.__init__" (topc 4 0) mI_ "self" "many"
 all_goals (first|kernel_rfl!|(intro _ _ _ _ _ _ us hl;obtain⟨_,_,rfl⟩:=len2 hl;rfl))
set_option hygiene false in
local macro_rules | `(tactic| ac_rfl) => `(tactic| first | kernel_rfl | (intro _ _ _ _ _ _ us hl; first | (obtain ⟨_, rfl⟩ := len1 hl; rfl) | (obtain ⟨_, _, rfl⟩ := len2 hl; rfl) | (obtain ⟨_, _, _, rfl⟩ := len3 hl; rfl) | (obtain ⟨_, _, _, _, rfl⟩ := len4 hl; rfl) | (obtain ⟨_, _, _, _, _, rfl⟩ := len5 hl; rfl)) | (intro cdv A outer s H E hr; (first | refine zFl ?_ ?_ | refine zDg (zIc ?_) | refine zDg (zLk ?_ ?_ ?_) | refine zDg ?_); repeat' (first
 | with_reducible (show DE _ _ _ _ _;first|(apply zCy G 106;kernel_rfl!)|(apply zCy G 94;kernel_rfl!)|(apply zCy G 82;kernel_rfl!)|(apply zCy G 63;kernel_rfl!)|(apply zCy G 44;kernel_rfl!)|(apply zQs G "ValueError" zOr;kernel_rfl!)|(apply zCy G 24;kernel_rfl!)|(apply zQt;kernel_rfl!)|apply zQu|apply zO6|apply zQo|apply zR7|apply zOn|apply zR5|apply zR3|apply zO8|apply zR4|apply zR2|apply zSn|(apply zSi;first|apply zN1|apply zNb|apply zN7|apply zHj|apply zN2|apply zK3|apply zN6)|(apply zR9;first|apply zL9|apply zN8)|(apply zSl;first|apply ix_D)|(apply zSh;first|apply sl_D)|(apply zSd;first|apply zGh|apply zGi|apply zGg|apply zGk)|(apply zQq;exact s_pop;apply zNf)|(apply zQr;exact zJa;apply zG2)|(apply zQr;exact zP4;apply zK6)|apply zSj)
 | with_reducible (show DA _ _ _ _ _;first|apply zOp|apply zRb)
 | with_reducible (show DT _ _ _ _ _;first|(apply zQv;first|apply zQ3|apply zL9|apply zQ2|apply zN3)|apply dt_w)
 | with_reducible (show DW _ _ _ _ _;first|apply zQn|apply zO2|apply zSc|apply zQm)
 | with_reducible (show DF _ _ _ _ _;first|apply zGb|apply zO7|apply zR0|(apply zSg;first|apply zF9))
 | with_reducible (show DG _ _ _ _;first|apply zO5|apply zQz)
 | with_reducible (show DGs _ _ _ _;first|apply zKv|apply zOh)
 | with_reducible (show DIf _ _ _ _ _;first|apply zOg|apply zOf)
 | with_reducible (show DI _ _ _ _ _ _;first|apply zQy|apply zIe)
 | with_reducible (show DS1 _ _ _ _ _;first|(apply zO3 G 24;kernel_rfl!)|(apply zO4;kernel_rfl!)|apply zOc|apply zIc|apply zIb|apply zLk|apply zKr|apply zKq|apply zQp|(apply zOb;first|apply zRo))
 | with_reducible (show DSs _ _ _ _ _;first|apply zFl|apply zDg|apply zOd)
 | with_reducible (show DO _ _ _ _ _;first|apply zQw|apply zSf)
 | with_reducible (show DPs _ _ _ _ _ _ _ _;first|apply zKs|apply zOe)
 | exact G.z _ (by kernel_rfl)
 | kernel_rfl
 | exact PassesOwn.never
 | exact zC9 (by kernel_rfl)
 | exact hr.units
 | exact zSa hr
 | exact hr.units0
 | exact hr.mono (by decide)
 | exact zEu G
 | exact zEt G
 | exact zE7 G
 | exact zGo G
 | exact zE6 G
 | exact zDi G
 | with_reducible (show DBx _ _ _ _;first|apply zIi|apply zGc|apply zRa)
 | exact zKh
 | exact zKg
 | exact zHw
 | exact G
 | exact .inl rfl
 | exact .inr rfl
 | exact .inr (.inl rfl)
 | exact .inr (.inr rfl)
 | decide
 | exact nomark _
 | with_unfolding_all rfl
 | intro _ _ _ _ _
 | intro _ _
 | exact⟨rfl,rfl⟩)))
theorem zEu:CC "_law_deal" 1 ["_law_script","_law_base"] DP.zBd:=fun G=>by apply zSq G 113 112 (top 8) mA_ n_0;all_goals ac_rfl
theorem zEt:CC "_law_draw" 1 ["_law_deal_here","_law_many"] DP.zA1:=fun G=>by apply zGn G 120 119 (top 9) mA_ n_4;all_goals ac_rfl
theorem zE7:CC "_law_sorts" 1 ["_law_error"] DP.zA9:=fun G=>by apply zGn G 132 131 (top 11) mA_ ["_law_error","_law_found"];all_goals ac_rfl
theorem zGo:CC "_law_due" 1 ["_law_at"] DP.zAb:=fun G=>by apply zGn G 137 136 (top 12) mA_ ["_law_at"];all_goals ac_rfl
theorem zE6:CC "_law_thing" 2 ["_law_deal_here"] DP.zAq:=fun G=>by apply zGn G 125 124 (top 10) mA_ n_1;all_goals ac_rfl
theorem zDi:CC "_law_raised" 3 ["_law_at","_law_thing_here"] DP.zAh:=fun G=>by apply zGn G 144 143 (top 13) mA_ n_5;all_goals ac_rfl
theorem zSs:CC "law" 4 ["_law_script"] DP.zG8:=fun G=>by apply zGn G 149 148 (top 14) mA_ n_3;all_goals ac_rfl
theorem walk {l:PySem.W.OpenLaw}{q:Program}{loose:List Str}{XP:(Str->Option Value)->Heap->Prop}{YP:World->Heap->Prop}{d:DefRec}{K:Params->PySem.W.Frag}(hn:l.most=some 63) (hdf:d.params.defaults=[])
  (hY:∀(w:World) (h:Heap),YP w h->(K w.params).In h)
  (F:∀(w:World) (mg:Str->Option Value) (fa:Addr) (h:Heap),(K w.params).In h->h.Ns mainGlobals mg->mg d.name=some (.ref fa)->
   ∃fd:FuncData,(∀(s:Shared) (u:Value),BindsTo s fd ⟨[u],[]⟩ [("_law_script",u)])/\∀base:Heap,(K w.params).In base->base.Ns mainGlobals mg->FnOk l.prog w (K w.params) mg base CX0 4 fa fd ["_law_script"] (spOf (K w.params) XE0 DP.zG8)):
  PySem.W.WalkO q loose XP YP l.row.toRowW d [] (fun f vs=>PySem.call f vs):=
 L2.zLu (n:=63) (k:=4) (x:="_law_script") (CX:=fun _=>CX0) (sp:=fun w=>spOf (K w.params) XE0 DP.zG8) hn (by decide) hdf ⟨rfl,by decide,by decide⟩ hY F (fun _ _ a ns hl _ hS=>zH0 (DP.law_ok ns hl) hS) fun _ _ _ _ _ z=>z
noncomputable abbrev dl:DefRec:=⟨"law",zAo (top 14),zAc (top 14),zA4 (top 14),match top 14 with|.FunctionDef _ _ _ _ _ _ _ _ _ p=>p|_=>⟨0,0,0,0⟩⟩
theorem all_mk {w:World}{h:Heap}{mg:Str->Option Value}{fa:Addr}(X:(KF w.params).In h) (G:h.Ns mainGlobals mg) (hfa:mg "law"=some (.ref fa)):∃fd:FuncData,(∀(s:Shared) (v:Value),BindsTo s fd ⟨[v],[]⟩ [("_law_script",v)])/\∀base:Heap,(KF w.params).In base->base.Ns mainGlobals mg->FnOk PySem.Challenge.pw_healfloor_k14_refusals_made w (KF w.params) mg base CX0 4 fa fd ["_law_script"] (spOf (KF w.params) XE0 DP.zG8):=by
 have D:Gd (KF w.params) mg:=⟨fun x v e=>PySem.W.mg_of X G e,fun x e=>PySem.W.mg_none_of X G e⟩
 have F:=zHz (K:=KF w.params) (f:=149) (cd:=148) (x:="law") (tq:=top 14) (pm:=mA_) (by kernel_rfl) (by kernel_rfl) (by kernel_rfl)
 have e:=hfa.symm.trans (D.a "law" (.ref 149) (by kernel_rfl))
 cases e
 refine⟨_,fun s v=>.of_eq rfl,fun base _ _=>fn_d F (zDa (N:=n_3) (by kernel_rfl)) rfl rfl (b:=DP.zOt) ?_⟩
 have G:=D
 ac_rfl
end Law
open PySem PySem.W PyProof.Rows
set_option maxRecDepth 100000 in
theorem PySem.Challenge.cw_healfloor_k14_refusals_made_holds : PySem.Challenge.rw_healfloor_k14_refusals_made.Holds := by
 refine PySem.W.holds_law (by decide +kernel) fun said=>PySem.W.holds_open (r:=PySem.W.OpenLaw.row PySem.Challenge.rw_healfloor_k14_refusals_made) (q:=Law.view) (loose:=[]) (Xt:=fun s=>xlAt Law.view [] s && recOk [] s) (XP:=XL Law.view []) (YP:=Hook.says Law.hk) (d:=Law.dl) (kwd:=[]) Law.left (Hook.of Law.hk) (Hook.keeps Law.hk) (fun s e=>xl_of s (Bool.and_eq_true_iff.mp e).1) XL.keeps (by kernel_rfl) (by kernel_rfl) (by kernel_rfl) (fun s e=>recFacts_of (Bool.and_eq_true_iff.mp e).2) (by kernel_rfl) said (by decide +kernel) ⟨by kernel_rfl,by kernel_rfl,by kernel_rfl,by kernel_rfl,by kernel_rfl,by decide +kernel⟩ ?hw ?hc
 case hw=>w_witness2
 case hc=>exact Law.walk (l:=PySem.Challenge.rw_healfloor_k14_refusals_made) (K:=Law.KF) (by kernel_rfl) (by kernel_rfl) (fun w h Y=>PySem.W.kIn_of Y) fun w mg fa h KX G hmg=>Law.all_mk KX G hmg
#print axioms PySem.Challenge.cw_healfloor_k14_refusals_made_holds
