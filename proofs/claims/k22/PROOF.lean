import PyProof.Rows.All
import Wide.All
import OpenK.AllK
import Wide.FinOn
import Lean
import KE.KLam
import PyProof.StationsW
import OpenK.KOwn
import PyProof.ExcClass2
import KE.KIsAll
import OpenK.KMake
import PyProof.ExcArgs
import PyProof.ExcAttrAll.ValueError
import KE.KTryMore
import PyProof.NsDelKeeps
import PyProof.RulesAs
import PyProof.ReprReads
import PyProof.StrCalls6
import PyProof.CollectWalk
import PyProof.MeetsStr
import PyProof.StrOps2
import PyProof.Rows.StrOrd
import PyProof.Rows.StrRev
import PyProof.ListMulRoad
import PyProof.Rows.StrLawsPart
import PyProof.StrLawsIn
import PyProof.AutoSeq1
import PyProof.ExcBaseAll.ValueError
import PyProof.Rows.Tup
import PyProof.ToksMono
import PyProof.StrOps
import PySem.Challenge.RW_healfloor_k22_rules_written_and_read
set_option bootstrap.genMatcherCode false
set_option genSizeOf false
set_option compiler.extract_closed false
local macro_rules|`(tactic|nofun)=>`(tactic|first|assumption|lia)
local macro_rules|`(tactic|trivial)=>`(tactic|first|exact Or.inl rfl|exact Or.inr rfl)
abbrev xa:=@PySem.wpAny_bind
abbrev xc:=@if_pos
abbrev xf:=@if_neg
abbrev xg:=@PySem.wpAny_pure
abbrev xh:=@Nat.le_refl
abbrev xi:=@decide_eq_false
abbrev xj:=@decide_eq_true
abbrev xk:=@List.length_append
abbrev xl:=@Bool.and_eq_true
abbrev xm:=@PySem.Heap.get?_push_of_some
abbrev xn:=@PySem.Heap.lt_size
abbrev xo:=@List.getElem?_eq_getElem
abbrev xp:=@List.length_map
abbrev xq:=@Nat.le_trans
abbrev xr:=@List.mem_cons
abbrev xt:=@List.map_cons
abbrev xu:=@List.size_toArray
abbrev xv:=@List.length_cons
abbrev xw:=@Nat.lt_of_lt_of_le
abbrev xx:=@List.mem_singleton
abbrev xy:=@Nat.ne_of_lt
abbrev xA:=@Ne.symm
abbrev xB:=@Option.some.inj
abbrev xC:=@List.getElem?_eq_some_iff
abbrev xD:=@PySem.Heap.get?_push_size
abbrev xE:=@List.mem_map
abbrev xF:=@PySem.wpAny_field
abbrev xG:=@List.length_singleton
abbrev xH:=@List.mem_append
abbrev xI:=@List.mem_append_right
abbrev xJ:=@List.not_mem_nil
abbrev xK:=@or_false
abbrev xM:=@List.getElem?_append_right
abbrev xN:=@List.getElem?_append_left
abbrev xO:=@List.getElem?_map
abbrev xP:=@List.map_append
abbrev xQ:=@List.sum_cons
abbrev xS:=@PySem.wpAny_holding
abbrev xT:=@List.lookup_cons
abbrev xU:=@List.map_map
abbrev xV:=@Bool.false_ne_true
abbrev xW:=@if_true
abbrev xX:=@Nat.ne_of_gt
abbrev xY:=@List.append_nil
abbrev xZ:=@if_false
abbrev x6:=@List.getElem?_eq_none
abbrev vc:=@decide_eq_decide
abbrev vd:=@PySem.wpAny_mono
abbrev ve:=@List.all_eq_true
abbrev vf:=@List.mem_append_left
abbrev vg:=@List.length_take
abbrev vh:=@PySem.Heap.get?_update_other
abbrev vi:=@Bool.false_eq_true
abbrev vj:=@List.length_range
abbrev vk:=@Nat.lt_irrefl
abbrev vm:=@PySem.wpAny_passesOwn
abbrev vn:=@Bool.eq_iff_iff
abbrev vo:=@List.length_nil
abbrev vp:=@List.map_nil
abbrev vq:=@PySem.wpAny_newObj_type
abbrev vt:=@beq_iff_eq
abbrev vv:=@PySem.Heap.size_push
abbrev vw:=@PySem.wpAny_seqItems
abbrev vx:=@List.mem_cons_self
abbrev vy:=@PySem.W.kia_one
abbrev vz:=@List.mem_of_getElem?
abbrev vA:=@PySem.wpAny_call_entry
abbrev vB:=@Nat.le_of_lt
abbrev vC:=@List.mem_cons_of_mem
abbrev vD:=@PySem.wpAny_callSpecial?_slot
abbrev vE:=@PyProof.Rows.slot_tuple_getitem
abbrev vF:=@PySem.Heap.get?_update_self
abbrev vG:=@List.cons_append
abbrev vH:=@Nat.sub_self
abbrev vI:=@List.getElem?_set_self
abbrev vJ:=@List.getElem?_set_ne
abbrev vK:=@PySem.wpAny_truthy_bool
abbrev vL:=@PySem.Calls.spliced_cons
abbrev vM:=@PySem.call_meets
abbrev vN:=@Nat.zero_le
abbrev vO:=@List.all_cons
abbrev vP:=@List.flatMap_cons
abbrev vQ:=@Bool.not_eq_true'
abbrev vR:=@List.nodup_cons
abbrev vS:=@List.length_reverse
abbrev vT:=@Int.toNat_natCast
abbrev vU:=@PySem.F.slot_zip_next
abbrev vV:=@Nat.mod_lt
abbrev vW:=@List.append_assoc
abbrev vX:=@Int.emod_nonneg
abbrev vY:=@Int.emod_lt_of_pos
abbrev vZ:=@PySem.wpAny_Call_Name_kw
abbrev v3:=@List.getElem?_take_of_lt
abbrev v5:=@List.length_drop
abbrev v7:=@PySem.wpAny_typeOf
abbrev v8:=@List.length_set
abbrev v9:=@List.flatten_cons
abbrev ua:=@List.forIn_cons
abbrev ub:=@Nat.le_succ
abbrev uc:=@PySem.wpAny_setField_rec
abbrev ud:=@List.cons.inj
abbrev ue:=@List.nil_append
abbrev uf:=@List.filter_cons
abbrev ug:=@Nat.min_eq_left
abbrev uh:=@PySem.Calls.Constant_str
abbrev ui:=@PySem.wpAny_execs_nil
abbrev uj:=@PySem.wpAny_standAt
abbrev uk:=@PyProof.Rows.callWith_type1
abbrev um:=@PySem.Calls.spliced_nil
abbrev uo:=@PySem.mem_of_lookup
abbrev uq:=@List.find?_cons
abbrev ur:=@beq_self_eq_true
abbrev uu:=@List.mem_iff_getElem?
abbrev uv:=@Nat.lt_succ_self
abbrev uw:=@List.forIn_nil
abbrev ux:=@Bool.and_true
abbrev uy:=@Option.map_some
abbrev uz:=@Nat.le_add_right
abbrev uA:=@List.flatMap_append
abbrev uB:=@PySem.wpAny_execs_cons
abbrev uC:=@List.replicate_succ
abbrev uD:=@Bool.not_eq_true
abbrev uE:=@PySem.wpAny_specialOf
abbrev uF:=@PySem.wpAny_isInstance
abbrev uG:=@PySem.F.plain_extend_loop
abbrev uH:=@PySem.wpAny_updateSeq
abbrev uI:=@List.ext_getElem?
abbrev uJ:=@List.getElem_toArray
abbrev uK:=@List.take_of_length_le
abbrev uM:=@PySem.Obj.data_mapFields
abbrev uN:=@PySem.wpAny_loadPart_at
abbrev uO:=@of_decide_eq_true
abbrev uP:=@List.eq_nil_of_length_eq_zero
abbrev uQ:=@List.getElem?_cons_zero
abbrev uR:=@List.getElem?_drop
abbrev uS:=@List.filterMap_cons
abbrev uT:=@Array.length_toList
abbrev uU:=@PySem.builtinLookup_eq_fast
abbrev uV:=@PySem.F.slot_tuple_iterator_next
abbrev uW:=@PySem.F.slot_str_split
abbrev uX:=@List.getElem?_range
abbrev uY:=@PySem.F.plainAttrs_str
abbrev uZ:=@List.length_eq_zero_iff
abbrev u3:=@List.map_eq_nil_iff
abbrev u4:=@List.set_append_right
set_option linter.all false
set_option maxRecDepth 100000
set_option Elab.async false
set_option maxHeartbeats 8000000
set_option autoImplicit true
set_option relaxedAutoImplicit true
noncomputable section
set_option hygiene false
set_option hygiene true
namespace L2
open PySem PySem.Spec PyProof.Rows
noncomputable abbrev Key:=Sum Int Str
noncomputable def zLb:Key->Value->Bool
 | .inl k,v=>Value.isInt k v
 | .inr x,v=>Value.isStrOf x v
noncomputable def keyH (w:World):Key->Int
 | .inl k=>hashInt k
 | .inr x=>hashStr w x
theorem zAw:∀{k:Key}{v:Value},zLb k v=true->(∃i t,k=Sum.inl i/\v=Value.int i t)\/(∃x t,k=Sum.inr x/\v=Value.str x t)
 | .inl i,v,h=>by
  obtain⟨t,e⟩:=Value.isInt_shape (k:=i) (v:=v) h;exact .inl ⟨i,t,rfl,e⟩
 | .inr x,v,h=>by
  obtain⟨t,e⟩:=Value.isStrOf_shape (x:=x) (v:=v) h;exact .inr ⟨x,t,rfl,e⟩
theorem zNp(i:Int)(t:Tok):zLb (.inl i) (.int i t)=true:=by simp[zLb,Value.isInt]
theorem zNo(x:Str)(t:Tok):zLb (.inr x) (.str x t)=true:=by simp[zLb,Value.isStrOf]
theorem zZd(a b:Int):decide ((Sum.inl a:Key)=Sum.inl b)=(a == b):=by
 by_cases e:a=b
 ·subst e;simp
 ·have h:¬ (Sum.inl a:Key)=Sum.inl b:=λq=>e (Sum.inl.inj q)
  rw[xi h];exact(beq_eq_false_iff_ne.mpr e).symm
theorem zZa(a b:Str):decide ((Sum.inr a:Key)=Sum.inr b)=decide (a=b):=by
 by_cases e:a=b
 ·subst e;simp
 ·have h:¬ (Sum.inr a:Key)=Sum.inr b:=λq=>e (Sum.inr.inj q)
  rw[xi h,xi e]
theorem zZc(a:Int)(b:Str):decide ((Sum.inl a:Key)=Sum.inr b)=false:=xi (λq=>nomatch q)
theorem zZb(a:Str)(b:Int):decide ((Sum.inr a:Key)=Sum.inl b)=false:=xi (λq=>nomatch q)
noncomputable def zBe (prog:Program) (w:World):PySem.KeyKind prog w Key where
 is:=zLb
 hash:=keyH w
 inj:=λv a b ha hb=>by
  rcases zAw ha with⟨i,t,rfl,rfl⟩|⟨x,t,rfl,rfl⟩
  ·rcases zAw hb with⟨j,u,rfl,e⟩|⟨y,u,rfl,e⟩
   ·injection e with e1 _;rw[e1]
   ·exact nomatch e
  ·rcases zAw hb with⟨j,u,rfl,e⟩|⟨y,u,rfl,e⟩
   ·exact nomatch e
   ·injection e with e1 _;rw[e1]
 byValue:=λk v h=>by
  rcases zAw h with⟨i,t,rfl,rfl⟩|⟨x,t,rfl,rfl⟩ <;> rfl
 pyHash:=λhv h=>by
  rcases zAw hv with⟨i,t,rfl,rfl⟩|⟨x,t,rfl,rfl⟩
  ·exact wpAny_pyHash_int h
  ·exact wpAny_pyHash_str h
 eqBool:=λhu hv h=>by
  rcases zAw hu with⟨i,t,rfl,rfl⟩|⟨x,t,rfl,rfl⟩
  ·rcases zAw hv with⟨j,u,rfl,rfl⟩|⟨y,u,rfl,rfl⟩
   ·rw[zZd]at h;exact wpAny_eqBool_int h
   ·rw[zZc]at h;exact SeqAt.EqAt.int_str i t y u _ _ _ _ h
  ·rcases zAw hv with⟨j,u,rfl,rfl⟩|⟨y,u,rfl,rfl⟩
   ·rw[zZb]at h;exact SeqAt.EqAt.str_int x t j u _ _ _ _ h
   ·rw[zZa]at h;exact wpAny_eqBool_str h
 «strs»:=λk x t v h=>by
  rcases zAw h with⟨i,u,rfl,e⟩|⟨y,u,rfl,e⟩
  ·exact nomatch e
  ·injection e with e1 _
   subst e1;cases v <;> rfl
theorem zIk(prog:Program)(w:World)(i:Int)(t:Tok):(zBe prog w).is (.inl i) (.int i t)=true:=zNp i t
theorem zIj(prog:Program)(w:World)(x:Str)(t:Tok):(zBe prog w).is (.inr x) (.str x t)=true:=zNo x t
inductive V where
 | non|bl (b:Bool)|int (i:Int)|str (x:Str)|byt (b:Array UInt8)|flt (b:UInt64)|ref (a:Addr)|ty (n:String)
 deriving DecidableEq
def RelV:V->Value->Prop
 | .non,u=>u=Value.none
 | .bl b,u=>u=Value.bool b
 | .int i,u=>∃t,u=Value.int i t
 | .str x,u=>∃t,u=Value.str x t
 | .byt b,u=>∃t,u=Value.bytes b t
 | .flt b,u=>∃t,u=Value.float b t
 | .ref a,u=>u=Value.ref a
 | .ty n,u=>u=Value.type n
abbrev Vals:List V->List Value->Prop:=Paired RelV
theorem Vals.length{xs:List V}{us:List Value}(r:Vals xs us):xs.length=us.length:=Paired.length r
theorem Vals.get:∀{xs:List V}{us:List Value}{i:Nat}{x:V},Vals xs us->xs[i]?=some x->∃u,us[i]?=some u/\RelV x u
 | _,_,_,_,.nil,e=>by simp at e
 | _,_,0,_,.cons r _,e=>by simp at e;subst e;exact⟨_,rfl,r⟩
 | _,_,i+1,x,.cons _ t,e=>by
  obtain⟨u,h1,h2⟩:=Vals.get (i:=i) (x:=x) t (by simpa using e);exact⟨u,by simpa using h1,h2⟩
theorem Vals.set(r:RelV x u):∀{xs:List V}{us:List Value}(i:Nat),Vals xs us->Vals (xs.set i x) (us.set i u)
 | _,_,_,.nil=>.nil
 | _,_,0,.cons _ t=>.cons r t
 | _,_,i+1,.cons q t=>.cons q (Vals.set r i t)
theorem Vals.append:∀{xs ys:List V}{us ws:List Value},Vals xs us->Vals ys ws->Vals (xs++ys) (us++ws)
 | _,_,_,_,.nil,s=>s
 | _,_,_,_,.cons r t,s=>.cons r (Vals.append t s)
theorem Vals.take:∀{xs:List V}{us:List Value}(n:Nat),Vals xs us->Vals (xs.take n) (us.take n)
 | _,_,0,_=>.nil
 | _,_,_+1,.nil=>.nil
 | _,_,n+1,.cons r t=>.cons r (Vals.take n t)
theorem Vals.drop:∀{xs:List V}{us:List Value}(n:Nat),Vals xs us->Vals (xs.drop n) (us.drop n)
 | _,_,0,r=>r
 | _,_,_+1,.nil=>.nil
 | _,_,n+1,.cons _ t=>Vals.drop n t
def RelO:Option V->Option Value->Prop
 | some v,some u=>RelV v u
 | none,none=>True
 | _,_=>False
def KV{κ:Type}:List (κ × V)->List (κ × Value)->Prop:=Paired fun(p:κ × V) (q:κ × Value)=>p.1=q.1/\RelV p.2 q.2
noncomputable def kV:Key->V
 | .inl i=>.int i
 | .inr x=>.str x
inductive HO where
 /-- a list -/
 | lst (xs:List V)
 /-- a tuple (never changes) -/
 | tup (xs:List V)
 /-- a dict whose keys are ints and texts;one whose keys are tuples of ints and texts (the empty one is both) -/
 | dK (kvs:List (Key × V))|dT (kvs:List (List Key × V))
 /-- a set of ints: its members,its size -/
 | set (S:Int->Bool) (n:Nat)
 /-- an instance of the class at C,its dict at dx,its attributes -/
 | ins (C dx:Addr) (fs:List (Str × V))
 /-- the dict of the instance at x -/
 | own (x:Addr)
 /-- the dict of an exception -/
 | xd (fs:List (Str × V))
 /-- a bound method,f of x -/
 | met (f x:Addr)
 /-- a range object lo,lo+1,.. below hi -/
 | rng (lo hi:Int)
 /-- a thing that is known to the object (the script;a dict while a loop walks it): read,never written while it is so -/
 | frz (o:Obj) (u:HO)
 /-- a code object's table -/
 | tbl (ps:Array Value)
 /-- any other thing,by what is true of its one object (a def of one's own: SetO a S n:=HO.ext λh=>..) -/
 | ext (φ:Heap->Prop)
noncomputable abbrev Hp:=Addr->Option HO
noncomputable def upd (H:Hp) (a:Addr) (o:HO):Hp:=λb=>if b=a then some o else H b
theorem zAb :upd H a o a=some o:=by unfold upd;rw[xc rfl]
theorem zA9{H:Hp}(h:b≠a):upd H a o b=H b:=by unfold upd;rw[xf h]
theorem yBt{H:Hp}(h:H a=some o)(h':H b=some u)(d:o≠u):a≠b:=by intro e;subst e;rw[h]at h';exact d (xB h')
theorem zAe{H:Hp}(h:H a=some o)(h':H b=none):a≠b:=by intro e;subst e;rw[h]at h';cases h'
section
variable (P:Program) (w:World)
def ObjOk(H:Hp)(h:Heap)(a:Addr):HO->Prop
 | .lst xs=>xs.length<=sizeLine/\∃(its:List Value) (n:Nat),Vals xs its/\h.get? a=some { cls:=.type "list",data:=.seq its.toArray n }
 | .tup xs=>xs.length<=sizeLine/\∃its:List Value,Vals xs its/\IsTup h a its.toArray
 | .dK kvs=>kvs.length<=sizeLine/\(a == sysModules)=false/\∃vs,KV kvs vs/\h.DictOf (zBe P w) a vs
 | .dT kvs=>kvs.length<=sizeLine/\(a == sysModules)=false/\∃xs:List (List Key × Addr × Value),
   Paired (fun(p:List Key × V) (q:List Key × Addr × Value)=>p.1=q.1/\H q.2.1=some (.tup (p.1.map kV))/\RelV p.2 q.2.2) kvs xs /\
   ∃o es ep,h.get? a=some o/\o.ExactDict/\o.data=.dict es ep/\es.toList=xs.map (entryOfKey (tupleKind (zBe P w)))/\(xs.map (·.1)).Nodup
 | .set S n=>h.SetOf (intKind P w) a S n
 | .ins C dx fs=>H dx=some (.own a)/\fs.length<=1000/\dx≠a/\h.get? a=some (PySem.W.instObj C dx) /\
   ∃mA,h.Ns1 dx mA/\(∀f,RelO (fs.lookup f) (mA f))/\PySem.Within mA (fs.map (·.1))
 | .own _=>∃o,h.get? a=some o
 | .xd fs=>∃mA,h.Ns1 a mA/\∀f,RelO (fs.lookup f) (mA f)
 | .rng lo hi=>∃t u v,h.get? a=some { cls:=.type "range",data:=.fields #[.int lo t,.int hi u,.int 1 v] }
 | .frz o u=>h.get? a=some o/\ObjOk H h a u
 | .tbl ps=>h.get? a=some { cls:=.none,data:=.fields ps }
 | .met f x=>h.get? a=some (PySem.W.methodObj (.ref f) (.ref x))
 | .ext φ=>φ h/\(∃o,h.get? a=some o)/\∀h1 h2:Heap,φ h1->(∀o,h1.get? a=some o->h2.get? a=some o)->φ h2
def HOk(H:Hp)(h:Heap):Prop:=∀a o,H a=some o->ObjOk P w H h a o
end
section
variable {P:Program}{w:World}{H H':Hp}{h h':Heap}{a:Addr}{o:HO}
theorem ObjOk.lt(x:ObjOk P w H h a o):a<h.objs.size:=by
 cases o with
 | lst xs=>obtain⟨_,_,_,_,e⟩:=x;exact xn e
 | tup xs=>obtain⟨_,_,_,p⟩:=x;exact p.lt
 | dK kvs=>obtain⟨_,_,_,_,o,_,_,e,_⟩:=x;exact xn e
 | dT kvs=>obtain⟨_,_,_,_,o,_,_,e,_⟩:=x;exact xn e
 | set S n=>obtain⟨o,_,_,_,e,_⟩:=x;exact xn e
 | ins C dx fs=>obtain⟨_,_,_,e,_⟩:=x;exact xn e
 | own y=>obtain⟨_,e⟩:=x;exact xn e
 | xd fs=>obtain⟨_,⟨_,_,_,e,_⟩,_⟩:=x;exact xn e
 | rng lo hi=>obtain⟨_,_,_,e⟩:=x;exact xn e
 | frz ob u=>obtain⟨e,_⟩:=x;exact xn e
 | tbl ps=>exact xn (show h.get? a=some _ from x)
 | met f y=>exact xn (show h.get? a=some _ from x)
 | ext φ=>obtain⟨_,⟨_,e⟩,_⟩:=x;exact xn e
theorem Paired.mapP{α β:Type}{F G:α->β->Prop}:∀{l₁:List α}{l₂:List β},Paired F l₁ l₂->(∀a b,F a b->G a b)->Paired G l₁ l₂
 | _,_,.nil,_=>.nil
 | _,_,.cons r t,f=>.cons (f _ _ r) (Paired.mapP t f)
theorem ObjOk.stay(x:ObjOk P w H h a o)(k:∀b u,(b=a\/H b=some (.own a))->h.get? b=some u->h'.get? b=some u)
  (ho:∀b,H b=some (.own a)->H' b=some (.own a)) (ht:∀b xs,H b=some (.tup xs)->H' b=some (.tup xs)):ObjOk P w H' h' a o:=by
 induction o with
 | lst xs=>obtain⟨z,its,n,r,e⟩:=x;exact⟨z,its,n,r,k _ _ (.inl rfl) e⟩
 | tup xs=>obtain⟨z,its,r,ob,e,c⟩:=x;exact⟨z,its,r,ob,k _ _ (.inl rfl) e,c⟩
 | dK kvs=>obtain⟨z,y,vs,r,ob,es,ep,e,c⟩:=x;exact⟨z,y,vs,r,ob,es,ep,k _ _ (.inl rfl) e,c⟩
 | dT kvs=>
  obtain⟨z,y,xs,r,ob,es,ep,e,c⟩:=x;exact⟨z,y,xs,Paired.mapP r λp q z=>⟨z.1,ht _ _ z.2.1,z.2.2⟩,ob,es,ep,k _ _ (.inl rfl) e,c⟩
 | set S n=>obtain⟨ob,es,ep,t,e,c⟩:=x;exact⟨ob,es,ep,t,k _ _ (.inl rfl) e,c⟩
 | ins C dx fs=>
  obtain⟨d,z,ne,e,mA,⟨od,es,ep,e2,c⟩,r⟩:=x;exact⟨ho _ d,z,ne,k _ _ (.inl rfl) e,mA,⟨od,es,ep,k _ _ (.inr d) e2,c⟩,r⟩
 | own y=>obtain⟨ob,e⟩:=x;exact⟨ob,k _ _ (.inl rfl) e⟩
 | xd fs=>obtain⟨mA,⟨od,es,ep,e,c⟩,r⟩:=x;exact⟨mA,⟨od,es,ep,k _ _ (.inl rfl) e,c⟩,r⟩
 | rng lo hi=>obtain⟨t,u,v,e⟩:=x;exact⟨t,u,v,k _ _ (.inl rfl) e⟩
 | frz ob u ih=>obtain⟨e,q⟩:=x;exact⟨k _ _ (.inl rfl) e,ih q⟩
 | tbl ps=>
  have e:h.get? a=some { cls:=.none,data:=.fields ps }:=x;show h'.get? a=some { cls:=.none,data:=.fields ps };exact k a _ (.inl rfl) e
 | met f y=>
  have e:h.get? a=some (PySem.W.methodObj (.ref f) (.ref y)):=x;show h'.get? a=some (PySem.W.methodObj (.ref f) (.ref y));exact k a _ (.inl rfl) e
 | ext φ=>obtain⟨p,⟨o,e⟩,st⟩:=x;exact⟨st _ _ p λo q=>k _ _ (.inl rfl) q,⟨o,k _ _ (.inl rfl) e⟩,st⟩
theorem HOk.lt(x:HOk P w H h)(e:H a=some o):a<h.objs.size:=(x a o e).lt
theorem HOk.fresh(x:HOk P w H h)(e:h.objs.size<=a):H a=none:=by
 cases q:H a with
 | none=>rfl
 | some u=>exact absurd (xw (x.lt q) e) (vk _)
theorem HOk.kept(x:HOk P w H h)(k:∀b u,h.get? b=some u->h'.get? b=some u):HOk P w H h':=λa o e=>
 (x a o e).stay (λb u _ q=>k b u q) (λ_ q=>q) λ_ _ q=>q
theorem HOk.laid(x:HOk P w H h)(k:∀b u,h.get? b=some u->h'.get? b=some u)(hp:h.objs.size<=a)(new:ObjOk P w (upd H a o) h' a o):HOk P w (upd H a o) h':=λb u e=>by
 have hn:=x.fresh hp;by_cases hb:b=a
 ·subst hb;rw[zAb]at e;cases e;exact new
 ·rw[zA9 hb]at e;exact(x b u e).stay (λc v _ q=>k c v q) (λc q=>by rw[zA9 (zAe q hn)];exact q) λc xs q=>by rw[zA9 (zAe q hn)];exact q
end
def Rd(H:Hp)(a:Addr)(u:HO):Prop:=H a=some u\/∃o,H a=some (.frz o u)
theorem Rd.ok(r:Rd H a u)(x:HOk P w H h):ObjOk P w H h a u:=by
 rcases r with r|⟨o,r⟩
 ·exact x a u r
 ·obtain⟨_,q⟩:=x a _ r;exact q
def Mut:Option HO->Prop
 | some (.lst _)=>True
 | some (.dK _)=>True
 | some (.dT _)=>True
 | some (.set _ _)=>True
 | some (.ins _ _ _)=>True
 | some (.ext _)=>True
 | _=>False
section
variable {P:Program}{w:World}{H:Hp}{h h':Heap}{x e:Addr}{o':HO}
theorem HOk.write(ok:HOk P w H h)(mu:Mut (H x))(he:e=x\/H e=some (.own x))(k:∀b u,b≠e->h.get? b=some u->h'.get? b=some u)(heo:∃u,h'.get? e=some u)
  (new:ObjOk P w (upd H x o') h' x o'):HOk P w (upd H x o') h':=λb u q=>by
 have nown:∀c y,H c=some (.own y)->c≠x:=λc y r z=>by subst z;rw[r]at mu;exact mu
 have ntup:∀c xs,H c=some (.tup xs)->c≠x:=λc xs r z=>by subst z;rw[r]at mu;exact mu
 by_cases hb:b=x
 ·subst hb;rw[zAb]at q;cases q;exact new
 ·rw[zA9 hb]at q;by_cases hbe:b=e
  ·have q':H b=some (.own x):=by
    rcases he with z|z
    ·exact absurd (hbe.trans z) hb
    ·rw[hbe];exact z
   rw[q]at q';cases q';obtain⟨v,hv⟩:=heo;exact⟨v,by rw[hbe];exact hv⟩
  ·refine(ok b u q).stay (λc v hc r=>k c v ?_ r) (λc r=>by rw[zA9 (nown c b r)];exact r) λc xs r=>by rw[zA9 (ntup c xs r)];exact r
   rcases hc with rfl|hc
   ·exact hbe
   ·rintro rfl;rcases he with z|z
    ·exact nown c b hc z
    ·rw[hc]at z;cases z;exact hb rfl
end
structure Un (fs ex:List Addr) (H H':Hp) (h h':Heap):Prop where
 keep:∀b o,h.get? b=some o->H b=none->b ∉ fs->b ∉ ex->h'.get? b=some o
 slot:∀b o,h.get? b=some o->H b=none->b∈fs->b ∉ ex->∃sl,h'.get? b=some { o with slots:=sl }
 free:∀b o,h.get? b=some o->H b=none->b ∉ ex->H' b=none
 there:∀b o,h.get? b=some o->b ∉ ex->∃o',h'.get? b=some o'
 tups:∀b xs,H b=some (.tup xs)->H' b=some (.tup xs)
 frzs:∀b o u,H b=some (.frz o u)->H' b=some (.frz o u)
 tbls:∀b ps,H b=some (.tbl ps)->∃more,H' b=some (.tbl (ps++more))
section
variable {fs fs' ex ex':List Addr}{H H1 H2:Hp}{h h1 h2 h':Heap}{a x e:Addr}{o:HO}
theorem Un.any(u:Un fs ex H H1 h h1){ob:Obj}(q:h.get? b=some ob)(n:H b=none)(hx:b ∉ ex):∃sl,h1.get? b=some { ob with slots:=sl }:=by
 by_cases hb:b∈fs
 ·exact u.slot b ob q n hb hx
 ·exact⟨ob.slots,u.keep b ob q n hb hx⟩
theorem Un.kept(k:∀b u,h.get? b=some u->h'.get? b=some u):Un fs ex H H h h':=
 ⟨λb ob q _ _ _=>k b ob q,λb ob q _ _ _=>⟨ob.slots,k b ob q⟩,λ_ _ _ n _=>n,λb ob q _=>⟨ob,k b ob q⟩,λ_ _ q=>q,λ_ _ _ q=>q,λ_ ps q=>⟨#[],by rw[q];simp⟩⟩
theorem Un.refl:Un fs ex H H h h:=Un.kept λ_ _ q=>q
theorem Un.laid(k:∀b u,h.get? b=some u->h'.get? b=some u)(hp:h.objs.size<=a)(hn:H a=none):Un fs ex H (upd H a o) h h' where
 keep:=λb u q _ _ _=>k b u q
 slot:=λb u q _ _ _=>⟨u.slots,k b u q⟩
 free:=λb u q n _=>by rw[zA9 (xy (xw (xn q) hp))];exact n
 there:=λb u q _=>⟨u,k b u q⟩
 tups:=λb xs q=>by rw[zA9 (zAe q hn)];exact q
 frzs:=λb u xs q=>by rw[zA9 (zAe q hn)];exact q
 tbls:=λb ps q=>⟨#[],by rw[zA9 (zAe q hn),q];simp⟩
theorem Un.write(mu:Mut (H x))(he:e=x\/H e=some (.own x))(k:∀b u,b≠e->h.get? b=some u->h'.get? b=some u)(heo:∃u,h'.get? e=some u):Un fs ex H (upd H x o) h h':=by
 have hx:∀b,H b=none->b≠x:=λb n z=>by subst z;rw[n]at mu;exact mu
 have hb:∀b,H b=none->b≠e:=λb n z=>by
  subst z;rcases he with r|r
  ·exact hx b n r
  ·rw[n]at r;cases r
 have hm:∀b u,H b=some u->¬ Mut (some u)->b≠x:=λb u q nm z=>by subst z;rw[q]at mu;exact nm mu
 refine⟨λb u q n _ _=>k b u (hb b n) q,λb u q n _ _=>⟨u.slots,k b u (hb b n) q⟩,λb u q n _=>by rw[zA9 (hx b n)];exact n,λb u q _=>?_,
  λb xs q=>by rw[zA9 (hm b _ q λz=>z)];exact q,λb u xs q=>by rw[zA9 (hm b _ q λz=>z)];exact q,λb ps q=>⟨#[],by rw[zA9 (hm b _ q λz=>z),q];simp⟩⟩
 by_cases hbe:b=e
 ·subst hbe;exact heo
 ·exact⟨u,k b u hbe q⟩
end
noncomputable def trk (h:Heap) (H:Hp):List Addr:=(List.range h.objs.size).filter λa=>(H a).isSome
noncomputable def hidT (h:Heap) (H:Hp):Heap:=PySem.W.hideAll h (trk h H)
theorem zO1(h:Heap)(H:Hp):(hidT h H).objs.size=h.objs.size:=PySem.W.hideAll_size _ _
theorem zRk{h:Heap}{H:Hp}(e:h.get? b=some o)(n:H b=none):(hidT h H).get? b=some o:=
 PySem.W.hideAll_get _ e λhm=>by
  have q:(H b).isSome=true:=(List.mem_filter.mp hm).2;rw[n]at q;simp at q
theorem zVd{h:Heap}{H:Hp}(e:(hidT h H).get? b=some o):h.get? b=some o/\H b=none:=by
 have e':h.get? b=some o:=PySem.W.of_hideAll (trk h H) e;refine⟨e',?_⟩;cases q:H b with
 | none=>rfl
 | some x=>
  have hm:b∈trk h H:=List.mem_filter.mpr ⟨List.mem_range.mpr (xn e'),by simp[q]⟩;have z:(hidT h H).get? b=none:=PySem.W.hideAll_none (trk h H) hm;rw[z]at e;cases e
noncomputable def zX1 (g h:Heap) (L:Addr):List (Addr × Obj):=(List.range h.objs.size).filterMap λa=>if a=L\/(g.get? a).isSome=true then none else(h.get? a).map λo=>(a,o)
noncomputable def rest (g h:Heap) (L d:Addr):List (Addr × Obj):=(zX1 g h L).filter λp=>decide (p.1≠d)
structure Mod (K:PySem.W.Frag) (mg:Str->Option Value) (base:Heap):Prop where
 kin:K.In base
 glob:base.Ns mainGlobals mg
 blt:∃mb,base.Ns builtinsNs mb/\∀x:Str,x≠"__name__"->mb x=bootBuiltins x
 nolimit:base.NoLimit
/-- the context: a def's body (or a comprehension's block) running. base: fixed through the whole law;s₀,H₀: the entry;outer: the frames whose slots others may change (a def's callers);stack: all frames that run;
   ex: iterators that were made ahead of the entry and are walked here (a comprehension's);fn: the names whose cells were made at the entry (a def: all;a comprehension's block: its own);calm: not within an except suite;pn: pins that every state bears;xe: what is wanted of an exception that leaves the code -/
structure Cx where
  prog:Program
  w:World
  K:PySem.W.Frag
  mg:Str->Option Value
  base:Heap
  A:Around
  N:List Str
  s₀:Shared
  H₀:Hp
  env:Env
  outer:List Env
  stack:List Env
  ex:List Addr
  fn:Str->Bool
  calm:Bool
  pn:List (Addr × Obj)
  xe:Value->Shared->Prop
noncomputable def frs (l:List Env):List Addr:=l.filterMap (·.frame)
noncomputable abbrev Cx.fs (X:Cx):List Addr:=frs X.outer
def Vis(sc:Scope)(x:Str):Prop:=sc.names.lookup x=some .local\/sc.names.lookup x=some .cell\/sc.names.lookup x=some .free
def Loc(sc:Scope)(x:Str):Prop:=sc.names.lookup x=some .local\/sc.names.lookup x=some .cell
def Look(env:Env)(h:Heap)(m:Str->Option Value)(x:Str)(u:Value):Prop:=
 (env.kindOf x=some .local/\m x=some u)\/((env.kindOf x=some .cell\/env.kindOf x=some .free)/\∃c,env.cells.lookup x=some c/\h.IsCell c (some u))
structure Cx.Ok (X:Cx):Prop where
 mod:Mod X.K X.mg X.base
 kind:X.env.scope.kind=.function
 glob:X.env.globals=mainGlobals
 blt:X.env.builtins=builtinsNs
 above:X.s₀.heap.objs.size<=X.env.locals
 inj:∀x y c,X.env.cells.lookup x=some c->X.env.cells.lookup y=some c->x=y
 has:∀x,(X.env.kindOf x=some .cell\/X.env.kindOf x=some .free)->∃c,X.env.cells.lookup x=some c
 cab:∀x c,X.fn x=true->X.env.cells.lookup x=some c->X.s₀.heap.objs.size<=c
 hd:X.calm=true->X.A.handled=none
 frames:X.A.frames=some X.stack
 stk:X.stack=X.outer\/(X.stack=X.env::X.outer/\X.env.frame=some X.env.locals)
 exf:∀b∈X.ex,b≠X.env.locals/\∀x c,X.env.cells.lookup x=some c->c≠b
 bs:∀b o,X.base.get? b=some o->X.s₀.heap.get? b=some o/\X.H₀ b=none
 bsz:X.base.objs.size<=X.s₀.heap.objs.size
 noex:∀b o,X.base.get? b=some o->b ∉ X.ex
 exfs:∀b∈X.ex,b ∉ X.fs
 funs:X.s₀.heap.FunFrames X.base X.outer
 frf:∀b∈X.fs,X.H₀ b=none
 gds:X.A.guards=some []
structure Inv (X:Cx) (pins:List (Addr × Obj)) (σ:List (Option V)) (H:Hp) (s:Shared):Prop where
 ok:X.Ok
 os:s.os=X.s₀.os
 bare:AllBare s.gens
 base:Un X.fs X.ex X.H₀ H X.s₀.heap s.heap
 loc:∃m,s.heap.Ns X.env.locals m/\∀(i:Nat) (x:Str) (v:V),X.N[i]?=some x->σ[i]?=some (some v)->Vis X.env.scope x->∃u,RelV v u/\Look X.env s.heap m x u
 cell:∀x c,X.env.cells.lookup x=some c->∃v,s.heap.IsCell c v
 free:H X.env.locals=none
 freeC:∀x c,X.env.cells.lookup x=some c->H c=none
 pin:∀p∈X.pn++pins,s.heap.get? p.1=some p.2/\H p.1=none/\p.1≠X.env.locals/\p.1 ∉ X.fs/\∀v,p.2.data≠.cell v
 hok:HOk X.prog X.w H s.heap
 len:σ.length=X.N.length
section
variable {X:Cx}{pins:List (Addr × Obj)}{σ:List (Option V)}{H H':Hp}{s:Shared}{h':Heap}
theorem Cx.Ok.nofr(ok:X.Ok)(e:X.base.get? b=some o):b ∉ X.fs:=λhb=>by
 have:=(ok.funs.mem hb).1;rw[e]at this;cases this
theorem Inv.bs(I:Inv X pins σ H s):∀b o,X.base.get? b=some o->s.heap.get? b=some o/\H b=none:=λb o e=>
 ⟨I.base.keep b o (I.ok.bs b o e).1 (I.ok.bs b o e).2 (I.ok.nofr e) (I.ok.noex b o e),I.base.free b o (I.ok.bs b o e).1 (I.ok.bs b o e).2 (I.ok.noex b o e)⟩
theorem Inv.bk(I:Inv X pins σ H s):∀b o,X.base.get? b=some o->s.heap.get? b=some o:=λb o e=>(I.bs b o e).1
theorem Inv.mod(I:Inv X pins σ H s):Mod X.K X.mg X.base:=I.ok.mod
theorem Inv.kIn(I:Inv X pins σ H s):X.K.In s.heap:=I.ok.mod.kin.keeps I.bk
theorem Inv.lt(I:Inv X pins σ H s):X.env.locals<s.heap.objs.size:=let ⟨_,hn,_⟩:=I.loc;hn.lt
theorem Inv.sz(I:Inv X pins σ H s):X.s₀.heap.objs.size<=s.heap.objs.size:=xq I.ok.above (vB I.lt)
theorem Inv.nofs(I:Inv X pins σ H s)(h:s.heap.objs.size<=a):a ∉ X.fs:=λhb=>by
 obtain⟨_,o,ho,_⟩:=I.ok.funs.mem hb
 exact absurd (xw (xn ho) (xq I.sz h)) (vk _)
theorem Inv.cne(I:Inv X pins σ H s):∀x c,X.env.cells.lookup x=some c->c≠X.env.locals:=λx c e z=>by
 obtain⟨v,o,ho,hd⟩:=I.cell x c e;obtain⟨m,⟨o',es,ep,ho',hd',_⟩,_⟩:=I.loc;rw[z,ho']at ho;cases ho;rw[hd']at hd;cases hd
theorem Inv.funs(I:Inv X pins σ H s):s.heap.FunFrames X.base X.outer:=by
 have all:∀(l:List Env),(∀b∈frs l,b∈X.fs)->X.s₀.heap.FunFrames X.base l->s.heap.FunFrames X.base l:=by
  intro l;induction l with
  | nil=>intro _ _;trivial
  | cons env r ih=>
   intro hs hl;obtain⟨hk,⟨L,o,hf,hn,ho,hd⟩,hr⟩:=hl;have hL:L∈X.fs:=hs L (by unfold frs;rw[uS,hf];exact vx);obtain⟨sl,e⟩:=I.base.slot L o ho (I.ok.frf L hL) hL λz=>I.ok.exfs L z hL
   exact⟨hk,⟨L,_,hf,hn,e,hd⟩,ih (λb hb=>hs b (by unfold frs;rw[uS,hf];exact vC _ hb)) hr⟩
 exact all X.outer (λ_ hb=>hb) I.ok.funs
theorem Inv.stack(I:Inv X pins σ H s):s.heap.FunFrames X.base X.stack:=by
 rcases I.ok.stk with e|⟨e,hf⟩
 ·rw[e];exact I.funs
 ·rw[e];obtain⟨m,hn,_⟩:=I.loc;refine .cons (by rw[I.ok.kind];decide) hf hn ?_ I.funs
  exact Heap.get?_none_of_le (xq I.ok.bsz I.ok.above)
theorem Inv.stkSub(I:Inv X pins σ H s):∀b∈frs X.stack,b∈X.env.locals::X.fs:=λb hb=>by
 rcases I.ok.stk with e|⟨e,hf⟩
 ·rw[e]at hb;exact vC _ hb
 ·rw[e]at hb;unfold frs at hb;rw[uS,hf]at hb;exact hb
theorem Inv.stkFree(I:Inv X pins σ H s):∀b∈frs X.stack,H b=none:=λb hb=>by
 rcases xr.mp (I.stkSub b hb)with e|hb
 ·rw[e];exact I.free
 ·obtain⟨_,o,ho,_⟩:=I.ok.funs.mem hb
  exact I.base.free b o ho (I.ok.frf b hb) λz=>I.ok.exfs b z hb
theorem Inv.step{g':Array GenState}{t':Nat}{d':Drawn}{ch:List Addr}(I:Inv X pins σ H s)
  (hch:∀b∈ch,(b∈X.ex\/X.s₀.heap.objs.size<=b)/\b≠X.env.locals/\(∀x c,X.env.cells.lookup x=some c->c≠b)/\∀p∈X.pn++pins,p.1≠b)
  (keep:∀b o,b≠X.env.locals->b ∉ X.fs->b ∉ ch->s.heap.get? b=some o->H b=none->h'.get? b=some o)
  (slot:∀b o,b≠X.env.locals->b∈X.fs->b ∉ ch->s.heap.get? b=some o->H b=none->∃sl,h'.get? b=some { o with slots:=sl }) (free:∀b o,b ∉ ch->s.heap.get? b=some o->H b=none->H' b=none)
  (there:∀b o,b ∉ ch->s.heap.get? b=some o->∃o',h'.get? b=some o')
  (tups:∀b xs,H b=some (.tup xs)->H' b=some (.tup xs)) (frzs:∀b o u,H b=some (.frz o u)->H' b=some (.frz o u)) (tbls:∀b ps,H b=some (.tbl ps)->∃more,H' b=some (.tbl (ps++more)))
  (ns:∀m,s.heap.Ns X.env.locals m->h'.Ns X.env.locals m) (hok:HOk X.prog X.w H' h') (hg:AllBare g'):
  Inv X pins σ H' { s with heap:=h',gens:=g',drawn:=d',toks:=t' }:=by
 have neL:∀b o,X.s₀.heap.get? b=some o->b≠X.env.locals:=λb o e=>xy (xw (xn e) I.ok.above)
 have neC:∀b o,X.s₀.heap.get? b=some o->b ∉ X.ex->b ∉ ch:=λb o e hx hb=>by
  rcases(hch b hb).1 with z|z
  ·exact hx z
  ·exact absurd (xw (xn e) z) (vk _)
 have cellK:∀x c,X.env.cells.lookup x=some c->∀v,s.heap.IsCell c v->h'.IsCell c v:=λx c e v hq1=>by
  obtain⟨o,ho,hd⟩:=hq1;have nch:c ∉ ch:=λz=>(hch c z).2.2.1 x c e rfl
  by_cases hc:c∈X.fs
  ·obtain⟨sl,q⟩:=slot c o (I.cne x c e) hc nch ho (I.freeC x c e);exact⟨_,q,hd⟩
  ·exact⟨o,keep c o (I.cne x c e) hc nch ho (I.freeC x c e),hd⟩
 refine⟨I.ok,I.os,hg,⟨λb o e n hb hx=>?_,λb o e n hb hx=>?_,λb o e n hx=>?_,λb o e hx=>?_,λb xs e=>tups b xs (I.base.tups b xs e),λb o xs e=>frzs b o xs (I.base.frzs b o xs e),λb ps e=>?_⟩,?_,λx c e=>?_,?_,λx c e=>?_,λp hp=>?_,hok,I.len⟩
 ·exact keep b o (neL b o e) hb (neC b o e hx) (I.base.keep b o e n hb hx) (I.base.free b o e n hx)
 ·obtain⟨sl,e1⟩:=I.base.slot b o e n hb hx;obtain⟨sl',e2⟩:=slot b _ (neL b o e) hb (neC b o e hx) e1 (I.base.free b o e n hx);exact⟨sl',e2⟩
 ·obtain⟨o',e1⟩:=I.base.there b o e hx;exact free b o' (neC b o e hx) e1 (I.base.free b o e n hx)
 ·obtain⟨o',e1⟩:=I.base.there b o e hx;exact there b o' (neC b o e hx) e1
 ·obtain⟨m1,e1⟩:=I.base.tbls b ps e;obtain⟨m2,e2⟩:=tbls b _ e1;exact⟨m1++m2,by rw[e2,Array.append_assoc]⟩
 ·obtain⟨m,hn,hl⟩:=I.loc;refine⟨m,ns m hn,λi x v e1 e2 e3=>?_⟩;obtain⟨u,r,l⟩:=hl i x v e1 e2 e3;refine⟨u,r,?_⟩;rcases l with l|⟨k,c,e,z⟩
  ·exact .inl l
  ·exact .inr ⟨k,c,e,cellK x c e _ z⟩
 ·obtain⟨v,z⟩:=I.cell x c e;exact⟨v,cellK x c e v z⟩
 ·obtain⟨m,⟨o,_,_,ho,_⟩,_⟩:=I.loc;exact free _ o (λz=>(hch _ z).2.1 rfl) ho I.free
 ·obtain⟨v,o,ho,hd⟩:=I.cell x c e;exact free c o (λz=>(hch c z).2.2.1 x c e rfl) ho (I.freeC x c e)
 ·obtain⟨e,n,ne,nf,d⟩:=I.pin p hp;have nch:p.1 ∉ ch:=λz=>(hch p.1 z).2.2.2 p hp rfl
  exact⟨keep p.1 p.2 ne nf nch e n,free p.1 p.2 nch e n,ne,nf,d⟩
theorem Inv.un{t':Nat}(I:Inv X pins σ H s)(u:Un X.fs [] H H' s.heap h')(hok:HOk X.prog X.w H' h'):Inv X pins σ H' { s with heap:=h',toks:=t' }:=by
 obtain⟨m,⟨o,es,ep,ho,r⟩,_⟩:=id I.loc;obtain⟨sl,hL⟩:=u.any ho I.free (by simp);exact I.step (g':=s.gens) (d':=s.drawn) (ch:=[]) (λ_ z=>nomatch z) (λb o _ hb _ e n=>u.keep b o e n hb (by simp)) (λb o _ hb _ e n=>u.slot b o e n hb (by simp)) (λb o _ e n=>u.free b o e n (by simp)) (λb o _ e=>u.there b o e (by simp)) u.tups u.frzs u.tbls (λm' hm=>by
  obtain⟨o',es',ep',ho',r'⟩:=hm;rw[ho]at ho';cases ho';exact⟨_,es',ep',hL,r'⟩) hok I.bare
theorem Inv.call{t':Nat}{d':Drawn}(I:Inv X pins σ H s)(u:Un (frs X.stack) ch H H' s.heap h')(hok:HOk X.prog X.w H' h')(hg:AllBare g')
  (hch:∀b∈ch,(b∈X.ex\/X.s₀.heap.objs.size<=b)/\b≠X.env.locals/\(∀x c,X.env.cells.lookup x=some c->c≠b)/\∀p∈X.pn++pins,p.1≠b):
  Inv X pins σ H' { s with heap:=h',gens:=g',drawn:=d',toks:=t' }:=by
 obtain⟨m,⟨o,es,ep,ho,r⟩,_⟩:=id I.loc;obtain⟨sl,hL⟩:=u.any ho I.free λz=>(hch _ z).2.1 rfl
 exact I.step (ch:=ch) hch (λb o hL hb hc e n=>u.keep b o e n (λz=>(xr.mp (I.stkSub b z)).elim hL hb) hc) (λb o _ _ hc e n=>u.any e n hc) (λb o hc e n=>u.free b o e n hc) (λb o hc e=>u.there b o e hc) u.tups u.frzs u.tbls (λm' hm=>by
  obtain⟨o',es',ep',ho',r'⟩:=hm;rw[ho]at ho';cases ho';exact⟨_,es',ep',hL,r'⟩) hok hg
theorem Inv.turned{t':Nat}(I:Inv X pins σ H s)(k:∀b o,b≠it->s.heap.get? b=some o->h'.get? b=some o)(hn:H it=none)(hL:it≠X.env.locals)
  (h1:it∈X.ex\/X.s₀.heap.objs.size<=it) (h2:∀x c,X.env.cells.lookup x=some c->c≠it) (h3:∀p∈X.pn++pins,p.1≠it):Inv X pins σ H { s with heap:=h',toks:=t' }:=by
 have nit:∀b u,H b=some u->b≠it:=λb u e z=>by rw[z,hn]at e;cases e
 refine I.step (g':=s.gens) (d':=s.drawn) (ch:=[it]) (λb hb=>?_) (λb o _ _ hc e _=>k b o (λz=>hc (by simp[z])) e) (λb o _ _ hc e _=>⟨o.slots,k b o (λz=>hc (by simp[z])) e⟩) (λ_ _ _ _ n=>n)
  (λb o hc e=>⟨o,k b o (λz=>hc (by simp[z])) e⟩) (λ_ _ e=>e) (λ_ _ _ e=>e) (λb ps e=>⟨#[],by rw[e];simp⟩) (λm hm=>?_) (λb u e=>?_) I.bare
 ·have e:b=it:=by simpa using hb
  subst e;exact⟨h1,hL,h2,h3⟩
 ·obtain⟨o,es,ep,ho,r⟩:=hm;exact⟨o,es,ep,k _ o (xA hL) ho,r⟩
 ·refine(I.hok b u e).stay (λc v hc q=>k c v ?_ q) (λ_ q=>q) λ_ _ q=>q
  rcases hc with z|z
  ·rw[z];exact nit b u e
  ·exact nit c _ z
theorem Inv.tok(I:Inv X pins σ H s)(t:Nat):Inv X pins σ H { s with toks:=t }:=I.un (h':=s.heap) (t':=t) Un.refl I.hok
theorem Inv.kept{t':Nat}(I:Inv X pins σ H s)(k:∀b u,s.heap.get? b=some u->h'.get? b=some u):Inv X pins σ H { s with heap:=h',toks:=t' }:=I.un (Un.kept k) (I.hok.kept k)
theorem Inv.laid{t':Nat}(I:Inv X pins σ H s)(k:∀b u,s.heap.get? b=some u->h'.get? b=some u)(hp:s.heap.objs.size<=a)(new:ObjOk X.prog X.w (upd H a o) h' a o):
  Inv X pins σ (upd H a o) { s with heap:=h',toks:=t' }:=I.un (Un.laid k hp (I.hok.fresh hp)) (I.hok.laid k hp new)
theorem Inv.write{o:HO}{t':Nat}(I:Inv X pins σ H s)(mu:Mut (H x))(he:e=x\/H e=some (.own x))(k:∀b u,b≠e->s.heap.get? b=some u->h'.get? b=some u)(heo:∃u,h'.get? e=some u)
  (new:ObjOk X.prog X.w (upd H x o) h' x o):Inv X pins σ (upd H x o) { s with heap:=h',toks:=t' }:=I.un (Un.write mu he k heo) (I.hok.write mu he k heo new)
theorem Inv.pins_of(I:Inv X pins σ H s)(h:∀p∈pins',s.heap.get? p.1=some p.2/\H p.1=none/\p.1≠X.env.locals/\p.1 ∉ X.fs/\∀v,p.2.data≠.cell v):Inv X pins' σ H s:=
 ⟨I.ok,I.os,I.bare,I.base,I.loc,I.cell,I.free,I.freeC,λp hp=>(xH.mp hp).elim (λz=>I.pin p (vf _ z)) (h p),I.hok,I.len⟩
theorem zJz{N:List Str}(hN:N.Nodup){i j:Nat}(a:N[i]?=some x)(b:N[j]?=some x):i=j:=by obtain⟨h1,e1⟩:=xC.mp a;obtain⟨h2,e2⟩:=xC.mp b;exact(List.getElem_inj hN).mp (e1.trans e2.symm)
theorem zDf{M:Model}{A:Around}{E:Value->Shared->Prop}{i:Nat}{Q:Unit->Shared->Prop}(I:Inv X pins σ H s)(hN:X.N.Nodup)(hi:X.N[i]?=some x)(hx:Loc X.env.scope x)(r:RelV v u)
  (h:∀s',Inv X pins (σ.set i (some v)) H s'->(∃a,Heap.SameBut a s.heap s'.heap/\(a=X.env.locals\/X.env.cells.lookup x=some a))->Q () s') (hf:X.fn x=true\/X.env.scope.names.lookup x=some .local:=by first|exact .inl rfl|exact .inr rfl|assumption):wpAny M A (storeName X.env x u) Q E s:=by
 obtain⟨m,hn,hl⟩:=id I.loc;have hcls:(X.env.scope.kind == .class || (X.env.scope.kind == .module && X.env.locals != X.env.globals))=false:=by rw[I.ok.kind];rfl
 have hiσ:i<σ.length:=by rw[I.len];exact(xC.mp hi).1
 have cne:=I.cne;have tracked:∀{a:Addr}{h':Heap},(∃o,s.heap.get? a=some o/\H a=none)->Heap.SameBut a s.heap h'->HOk X.prog X.w H h':=λ{a h'} ha hs b ob e=>by
  obtain⟨_,_,hfree⟩:=ha;refine(I.hok b ob e).stay (λc w' hc q=>(hs.2 c ?_).trans q) (λ_ q=>q) λ_ _ q=>q
  rintro rfl;rcases hc with rfl|hc
  ·rw[hfree]at e;cases e
  ·rw[hfree]at hc;cases hc
 rcases hx with hk|hk
 ·refine wpAny_storeName_local hk hn (λh' hn' hs=>?_) hcls;obtain⟨oL,_,_,hoL,_⟩:=id hn;refine h _ ⟨I.ok,I.os,I.bare,⟨λb o e n hb hx=>?_,λb o e n hb hx=>?_,I.base.free,λb o e hx=>?_,I.base.tups,I.base.frzs,I.base.tbls⟩,⟨_,hn',λj y v' e1 e2 e3=>?_⟩,λy c e=>?_,I.free,I.freeC,λp hp=>?_,tracked ⟨oL,hoL,I.free⟩ hs,by simpa using I.len⟩ ⟨_,hs,.inl rfl⟩
  ·exact(hs.2 b (xy (xw (xn e) I.ok.above))).trans (I.base.keep b o e n hb hx)
  ·obtain⟨sl,e1⟩:=I.base.slot b o e n hb hx;exact⟨sl,(hs.2 b (xy (xw (xn e) I.ok.above))).trans e1⟩
  ·obtain⟨o',e1⟩:=I.base.there b o e hx;exact⟨o',(hs.2 b (xy (xw (xn e) I.ok.above))).trans e1⟩
  ·by_cases hj:j=i
   ·subst hj;rw[hi]at e1;cases e1;rw[vI hiσ]at e2;cases e2;exact⟨u,r,.inl ⟨hk,by simp⟩⟩
   ·rw[vJ (xA hj)]at e2;obtain⟨u',r',q⟩:=hl j y v' e1 e2 e3;refine⟨u',r',?_⟩;rcases q with⟨k,e⟩|⟨k,c,e,z⟩
    ·refine .inl ⟨k,?_⟩;have:y≠x:=λe=>hj (zJz hN e1 (e ▸ hi))
     simp[this,e]
    ·exact .inr ⟨k,c,e,z.sameBut hs (cne y c e)⟩
  ·obtain⟨w',z⟩:=I.cell y c e;exact⟨w',z.sameBut hs (cne y c e)⟩
  ·obtain⟨e,n,ne,nf,d⟩:=I.pin p hp;exact⟨(hs.2 p.1 ne).trans e,n,ne,nf,d⟩
 ·have hfn:X.fn x=true:=by
   rcases hf with z|z
   ·exact z
   ·rw[z]at hk;cases hk
  obtain⟨c,hc⟩:=I.ok.has x (.inl hk);obtain⟨w',z⟩:=I.cell x c hc;refine wpAny_storeName_cell I.ok.kind hk hc z (λh' hc' hs=>?_);obtain⟨oc,hoc,hocd⟩:=id z;refine h { s with heap:=h' } ⟨I.ok,I.os,I.bare,⟨λb o e n hb hx=>?_,λb o e n hb hx=>?_,I.base.free,λb o e hx=>?_,I.base.tups,I.base.frzs,I.base.tbls⟩,⟨m,hn.sameBut hs (xA (cne x c hc)),λj y v' e1 e2 e3=>?_⟩,λy c' e=>?_,I.free,I.freeC,λp hp=>?_,tracked ⟨oc,hoc,I.freeC x c hc⟩ hs,by simpa using I.len⟩ ⟨c,hs,.inr hc⟩
  ·exact(hs.2 b (xy (xw (xn e) (I.ok.cab x c hfn hc)))).trans (I.base.keep b o e n hb hx)
  ·obtain⟨sl,e1⟩:=I.base.slot b o e n hb hx;exact⟨sl,(hs.2 b (xy (xw (xn e) (I.ok.cab x c hfn hc)))).trans e1⟩
  ·obtain⟨o',e1⟩:=I.base.there b o e hx;exact⟨o',(hs.2 b (xy (xw (xn e) (I.ok.cab x c hfn hc)))).trans e1⟩
  ·by_cases hj:j=i
   ·subst hj;rw[hi]at e1;cases e1;rw[vI hiσ]at e2;cases e2;exact⟨u,r,.inr ⟨.inl hk,c,hc,hc'⟩⟩
   ·rw[vJ (xA hj)]at e2;obtain⟨u',r',q⟩:=hl j y v' e1 e2 e3;refine⟨u',r',?_⟩;rcases q with q|⟨k,c',e,z'⟩
    ·exact .inl q
    ·refine .inr ⟨k,c',e,z'.sameBut hs ?_⟩;rintro rfl;exact hj (zJz hN e1 (I.ok.inj _ _ _ e hc ▸ hi))
  ·by_cases hcc:c'=c
   ·subst hcc;exact⟨_,hc'⟩
   ·obtain⟨w2,z2⟩:=I.cell y c' e;exact⟨w2,z2.sameBut hs hcc⟩
  ·obtain⟨e,n,ne,nf,d⟩:=I.pin p hp;refine⟨(hs.2 p.1 ?_).trans e,n,ne,nf,d⟩;intro q;rw[q,hoc]at e;have q':oc=p.2:=xB e;exact d w' (by rw[<- q'];exact hocd)
theorem zJp{M:Model}{A:Around}{E:Value->Shared->Prop}{i:Nat}{Q:Unit->Shared->Prop}(I:Inv X pins σ H s)(hN:X.N.Nodup)(hi:X.N[i]?=some x)(hx:Loc X.env.scope x)(r:RelV v u)
  (h:∀s',Inv X pins (σ.set i (some v)) H s'->Q () s') (hf:X.fn x=true\/X.env.scope.names.lookup x=some .local:=by first|exact .inl rfl|exact .inr rfl|assumption):wpAny M A (storeName X.env x u) Q E s:=
 zDf I hN hi hx r (λs' I' _=>h s' I') hf
theorem Inv.call'{s':Shared}(I:Inv X pins σ H s)(ho:s'.os=s.os)(u:Un (frs X.stack) ch H H' s.heap s'.heap)(hok:HOk X.prog X.w H' s'.heap)(hg:AllBare s'.gens)
  (hch:∀b∈ch,(b∈X.ex\/X.s₀.heap.objs.size<=b)/\b≠X.env.locals/\(∀x c,X.env.cells.lookup x=some c->c≠b)/\∀p∈X.pn++pins,p.1≠b):Inv X pins σ H' s':=by
 obtain⟨h',g',d',t',o'⟩:=s';have e:o'=s.os:=ho;subst e;exact I.call (g':=g') (t':=t') (d':=d') u hok hg hch
end
abbrev XK:=Value->Option Addr->Hp->Prop
noncomputable abbrev St:=List (Option V)
abbrev VK:=V->Hp->Prop
abbrev TE:=St->Hp->VK->Prop
abbrev TT:=St->Hp->(Bool->Hp->Prop)->Prop
abbrev TA:=St->Hp->(List V->Hp->Prop)->Prop
structure Ends where
 nx:St->Hp->Prop
 rt:VK
 bk:St->Hp->Prop:=λ_ _=>False
 ct:St->Hp->Prop:=λ_ _=>False
abbrev TS:=Ends->St->Hp->Prop
def EP(X:Cx)(pins:List (Addr × Obj))(σ:St)(Q:VK)(u:Value)(s':Shared):Prop:=∃v H',Inv X pins σ H' s'/\RelV v u/\Q v H'
def TP(X:Cx)(pins:List (Addr × Obj))(σ:St)(Q:Bool->Hp->Prop)(b:Bool)(s':Shared):Prop:=∃H',Inv X pins σ H' s'/\Q b H'
def AP(X:Cx)(pins:List (Addr × Obj))(σ:St)(Q:List V->Hp->Prop)(us:List Value)(s':Shared):Prop:=∃vs H',Inv X pins σ H' s'/\Vals vs us/\Q vs H'
def SP(X:Cx)(pins:List (Addr × Obj))(D:Ends)(f:Flow)(s':Shared):Prop:=
 match f with
 | .next=>∃σ' H',Inv X pins σ' H' s'/\D.nx σ' H'
 | .brk=>∃σ' H',Inv X pins σ' H' s'/\D.bk σ' H'
 | .cont=>∃σ' H',Inv X pins σ' H' s'/\D.ct σ' H'
 | .ret u=>∃v σ' H',Inv X pins σ' H' s'/\RelV v u/\D.rt v H'
def PE(X:Cx)(e:Expr)(t:TE):Prop:=
 ∀(pins:List (Addr × Obj)) (s:Shared) (σ:St) (H:Hp) (Q:VK),Inv X pins σ H s->t σ H Q->wpAny (model X.prog X.w) X.A (eval e X.env) (EP X pins σ Q) X.xe s
def PT(X:Cx)(e:Expr)(t:TT):Prop:=
 ∀(pins:List (Addr × Obj)) (s:Shared) (σ:St) (H:Hp) (Q:Bool->Hp->Prop),Inv X pins σ H s->t σ H Q->wpAny (model X.prog X.w) X.A (isTrue e X.env (eval e X.env)) (TP X pins σ Q) X.xe s
def PW(X:Cx)(e:Expr)(t:TT):Prop:=
 ∀(whole:Sem Value) (pins:List (Addr × Obj)) (s:Shared) (σ:St) (H:Hp) (Q:Bool->Hp->Prop),Inv X pins σ H s->t σ H Q->wpAny (model X.prog X.w) X.A (isTrue e X.env whole) (TP X pins σ Q) X.xe s
theorem PW.pt(h:PW X e t):PT X e t:=h _
def PA(X:Cx)(es:List Expr)(t:TA):Prop:=
 ∀(pos:Pos) (pins:List (Addr × Obj)) (s:Shared) (σ:St) (H:Hp) (Q:List V->Hp->Prop),Inv X pins σ H s->t σ H Q->wpAny (model X.prog X.w) X.A (spliced (backTo pos (starEach es X.env))) (AP X pins σ Q) X.xe s
def PS(X:Cx)(st:Stmt)(t:TS):Prop:=
 ∀(pins:List (Addr × Obj)) (s:Shared) (σ:St) (H:Hp) (D:Ends),Inv X pins σ H s->t D σ H->wpAny (model X.prog X.w) X.A (exec st X.env) (SP X pins D) X.xe s
def PSs(X:Cx)(st:List Stmt)(t:TS):Prop:=
 ∀(pins:List (Addr × Obj)) (s:Shared) (σ:St) (H:Hp) (D:Ends),Inv X pins σ H s->t D σ H->wpAny (model X.prog X.w) X.A (execs st X.env) (SP X pins D) X.xe s
theorem thn{α:Type}{t:Sem α}{Q Q':α->Shared->Prop}{E:Value->Shared->Prop}(h:wpAny M A t Q E s)(hQ:∀a s,Q a s->Q' a s):wpAny M A t Q' E s:=vd h hQ λ_ _ x=>x
section
variable {X:Cx}
noncomputable def tVar (i:Nat):TE:=λσ H Q=>∃v,σ[i]?=some (some v)/\Q v H
noncomputable def tC (v:V):TE:=λ_ H Q=>Q v H
theorem zYb(hN:X.N[i]?=some x)(hv:Vis X.env.scope x)(hd:(x == ("__debug__":Str))=false:=by decide)(hcd:(x == ("__classdict__":Str))=false:=by decide):PE X (.Name x pos) (tVar i):=by
 intro pins s σ H Q I h;obtain⟨v,e,h⟩:=h;obtain⟨m,hn,hl⟩:=I.loc;obtain⟨u,r,l⟩:=hl i x v hN e hv;have fin:EP X pins σ Q u s:=⟨v,H,I,r,h⟩;rcases l with⟨hk,hm⟩|⟨hk,c,hc,hcell⟩
 ·exact wpAny_Name (wpAny_loadName_local I.ok.kind hk hn hm fin) hd
 ·rcases hk with hk|hk
  ·exact wpAny_Name (wpAny_loadName_cell I.ok.kind hk hc hcell fin) hd
  ·exact wpAny_Name (wpAny_loadName_free I.ok.kind hk hc hcell fin hcd) hd
theorem zYk{i j pos}:PE X (.Constant (.int i) j pos) (tC (.int i)):=λ_ _ _ H _ I h=>wpAny_Constant_int ⟨.int i,H,I.tok _,⟨_,rfl⟩,h⟩
theorem yBm{b j pos}:PE X (.Constant (.bool b) j pos) (tC (.bl b)):=λ_ _ _ H _ I h=>Constant_bool ⟨.bl b,H,I,rfl,h⟩
theorem zYi{j pos}:PE X (.Constant .none j pos) (tC .non):=λ_ _ _ H _ I h=>Constant_none ⟨.non,H,I,rfl,h⟩
theorem zYe{x j pos}:PE X (.Constant (.str x) j pos) (tC (.str x)):=λ_ _ _ H _ I h=>uh ⟨.str x,H,I.tok _,⟨_,rfl⟩,h⟩
def Gl(X:Cx)(x:Str):Prop:=X.env.kindOf x=some .globalImplicit
theorem zIo{E:Value->Shared->Prop}{pos:Pos}{Q:Value->Shared->Prop}(I:Inv X pins σ H s)(hg:Gl X x)(hm:X.mg x=some u)(h:Q u s)
  (hd:(x == ("__debug__":Str))=false:=by decide):wpAny (model X.prog X.w) X.A (eval (.Name x pos) X.env) Q E s:=
 Calls.Name_function_global I.ok.kind hg (Calls.loadGlobal_global (by rw[I.ok.glob];exact I.mod.glob.keeps I.bk) hm h) hd
theorem zE0{E:Value->Shared->Prop}{pos:Pos}{Q:Value->Shared->Prop}(I:Inv X pins σ H s)(hg:Gl X x)(hm:X.mg x=none)(hv:bootBuiltins x=some u)(h:Q u s)
  (hn:x≠"__name__":=by decide) (hd:(x == ("__debug__":Str))=false:=by decide):wpAny (model X.prog X.w) X.A (eval (.Name x pos) X.env) Q E s:=by
 obtain⟨mb,h1,h2⟩:=I.mod.blt;exact Calls.Name_function_global I.ok.kind hg (Calls.loadGlobal_builtin (by rw[I.ok.glob];exact I.mod.glob.keeps I.bk) hm (by rw[I.ok.blt];exact h1.keeps I.bk) ((h2 x hn).trans hv) h) hd
theorem zUt(hg:Gl X x)(hm:X.mg x=some u)(r:RelV v u)(hd:(x == ("__debug__":Str))=false:=by decide):PE X (.Name x pos) (tC v):=
 λ_ _ _ H _ I h=>zIo I hg hm ⟨v,H,I,r,h⟩ hd
theorem zUw(hg:Gl X x)(hm:X.mg x=none)(hv:bootBuiltins x=some u)(r:RelV v u)(hn:x≠"__name__":=by decide)(hd:(x == ("__debug__":Str))=false:=by decide):PE X (.Name x pos) (tC v):=
 λ_ _ _ H _ I h=>zE0 I hg hm hv ⟨v,H,I,r,h⟩ hn hd
variable {a b:Expr}{ta tb:TE}{pos:Pos}
variable {tA tB':TT}{rest:List Expr}
noncomputable def tAnd (t u:TT):TT:=λσ H Q=>t σ H λc H1=>if c=true then u σ H1 Q else Q false H1
noncomputable def tOr (t u:TT):TT:=λσ H Q=>t σ H λc H1=>if c=true then Q true H1 else u σ H1 Q
noncomputable def tNot (t:TT):TT:=λσ H Q=>t σ H λc H1=>Q (!c) H1
theorem zU9(ha:PT X a tA):PW X (.BoolOp .And [a] pos) tA:=by
 intro wh pins s σ H Q I h;refine isTrue_and (thn (ha pins s σ H Q I h) λc s1 e=>?_);cases c with
 | true=>exact isTrue_and_nil e
 | false=>exact e
theorem zXy(ha:PT X a tA):PW X (.BoolOp .Or [a] pos) tA:=by
 intro wh pins s σ H Q I h;refine isTrue_or (thn (ha pins s σ H Q I h) λc s1 e=>?_);cases c with
 | false=>exact isTrue_or_nil e
 | true=>exact e
theorem zY0(ha:PT X a tA)(hb:PW X (.BoolOp .And (b::rest) pos) tB'):PW X (.BoolOp .And (a::b::rest) pos) (tAnd tA tB'):=by
 intro wh pins s σ H Q I h;refine isTrue_and (thn (ha pins s σ H _ I h) λc s1 hq1=>?_);obtain⟨H1,I1,q1⟩:=hq1;cases c with
 | true=>exact hb wh pins s1 σ H1 Q I1 q1
 | false=>exact⟨H1,I1,q1⟩
theorem yBd(ha:PT X a tA)(hb:PW X (.BoolOp .Or (b::rest) pos) tB'):PW X (.BoolOp .Or (a::b::rest) pos) (tOr tA tB'):=by
 intro wh pins s σ H Q I h;refine isTrue_or (thn (ha pins s σ H _ I h) λc s1 hq1=>?_);obtain⟨H1,I1,q1⟩:=hq1;cases c with
 | true=>exact⟨H1,I1,q1⟩
 | false=>exact hb wh pins s1 σ H1 Q I1 q1
theorem zY2(ha:PT X a tA):PT X (.UnaryOp .Not a pos) (tNot tA):=by intro pins s σ H Q I h;exact isTrue_not (ha pins s σ H (λc H1=>Q (!c) H1) I h)
noncomputable def zXk (ta tb:TE):TE:=λσ H Q=>ta σ H λx H1=>∃c,x=.bl c/\if c=true then tb σ H1 Q else Q (.bl false) H1
noncomputable def tOrV (ta tb:TE):TE:=λσ H Q=>ta σ H λx H1=>∃c,x=.bl c/\if c=true then Q (.bl true) H1 else tb σ H1 Q
theorem zYh{op}(h:PE X a t):PE X (.BoolOp op [a] pos) t:=λpins s σ H Q I hw=>BoolOp_one (h pins s σ H Q I hw)
theorem zYq(ha:PE X a ta)(hb:PE X (.BoolOp .And (b::rest) pos) tb):PE X (.BoolOp .And (a::b::rest) pos) (zXk ta tb):=by
 intro pins s σ H Q I h;refine BoolOp_and (thn (ha pins s σ H _ I h) λv s1 hq1=>?_);obtain⟨x,H1,I1,r1,q1⟩:=hq1;obtain⟨c,rfl,q1⟩:=q1;cases r1;refine vK ?_;cases c with
 | true=>exact hb pins s1 σ H1 Q I1 q1
 | false=>exact⟨.bl false,H1,I1,rfl,q1⟩
theorem yBi(ha:PE X a ta)(hb:PE X (.BoolOp .Or (b::rest) pos) tb):PE X (.BoolOp .Or (a::b::rest) pos) (tOrV ta tb):=by
 intro pins s σ H Q I h;refine BoolOp_or (thn (ha pins s σ H _ I h) λv s1 hq1=>?_);obtain⟨x,H1,I1,r1,q1⟩:=hq1;obtain⟨c,rfl,q1⟩:=q1;cases r1;refine vK ?_;cases c with
 | false=>exact hb pins s1 σ H1 Q I1 q1
 | true=>exact⟨.bl true,H1,I1,rfl,q1⟩
noncomputable def tIf (t:TT) (ta tb:TE):TE:=λσ H Q=>t σ H λc H1=>if c=true then ta σ H1 Q else tb σ H1 Q
theorem zQs(hc:PT X c tA)(ha:PE X a ta)(hb:PE X b tb):PE X (.IfExp c a b pos) (tIf tA ta tb):=by
 intro pins s σ H Q I h;refine wpAny_IfExp (thn (hc pins s σ H _ I h) λd s1 hq1=>?_);obtain⟨H1,I1,q1⟩:=hq1;cases d with
 | true=>exact ha pins s1 σ H1 Q I1 q1
 | false=>exact hb pins s1 σ H1 Q I1 q1
end
def SqL(K:PySem.W.Frag)(H:Hp)(a:Addr)(xs:List V):Prop:=
 Rd H a (.lst xs) \/
  ∃(o:Obj) (its:Array Value) (n:Nat),K.lookup a=some o/\o.cls=.type "list"/\o.dict=none/\o.data=.seq its n/\its.size<=sizeLine/\Vals xs its.toList
def SqT(K:PySem.W.Frag)(H:Hp)(a:Addr)(xs:List V):Prop:=
 Rd H a (.tup xs) \/
  ∃(o:Obj) (its:Array Value) (n:Nat),K.lookup a=some o/\o.cls=.type "tuple"/\o.data=.seq its n/\its.size<=sizeLine/\Vals xs its.toList
noncomputable def absV:Value->Option V
 | .none=>some .non
 | .bool b=>some (.bl b)
 | .int i _=>some (.int i)
 | .str x _=>some (.str x)
 | .bytes b _=>some (.byt b)
 | .float b _=>some (.flt b)
 | .ref a=>some (.ref a)
 | .type n=>some (.ty n)
 | _=>none
theorem RelV.abs(r:RelV x u):absV u=some x:=by
 cases x with
 | non=>cases r;rfl
 | bl _=>cases r;rfl
 | int _=>obtain⟨t,rfl⟩:=r;rfl
 | str _=>obtain⟨t,rfl⟩:=r;rfl
 | byt _=>obtain⟨t,rfl⟩:=r;rfl
 | flt _=>obtain⟨t,rfl⟩:=r;rfl
 | ref _=>cases r;rfl
 | ty _=>cases r;rfl
theorem RelV.inj(r:RelV x u)(q:RelV y u):x=y:=xB (r.abs.symm.trans q.abs)
theorem Vals.inj:∀{xs ys:List V}{us:List Value},Vals xs us->Vals ys us->xs=ys
 | _,_,_,.nil,.nil=>rfl
 | _,_,_,.cons r t,.cons r' t'=>by rw[r.inj r',Vals.inj t t']
section
variable {X:Cx}{pins:List (Addr × Obj)}{σ:St}{H:Hp}{s:Shared}{a:Addr}{xs ys:List V}
theorem SqL.of{K:PySem.W.Frag}(h:H a=some (.lst xs)):SqL K H a xs:=.inl (.inl h)
theorem SqT.of{K:PySem.W.Frag}(h:H a=some (.tup xs)):SqT K H a xs:=.inl (.inl h)
theorem Inv.list(I:Inv X pins σ H s)(h:SqL X.K H a xs):∃its:List Value,Vals xs its/\PlainL s.heap a its.toArray/\xs.length<=sizeLine:=by
 rcases h with h|⟨o,its,n,hk,hc,hd,hs,hz,r⟩
 ·obtain⟨z,its,n,r,e⟩:=h.ok I.hok;exact⟨its,r,⟨_,n,e,rfl,rfl,rfl⟩,z⟩
 ·refine⟨its.toList,r,⟨o,n,I.kIn a o hk,hc,hd,by simpa using hs⟩,?_⟩;have e:=r.length;simp only[uT]at e;lia
theorem Inv.tuple(I:Inv X pins σ H s)(h:SqT X.K H a xs):∃its:List Value,Vals xs its/\IsTup s.heap a its.toArray/\xs.length<=sizeLine:=by
 rcases h with h|⟨o,its,n,hk,hc,hs,hz,r⟩
 ·obtain⟨z,its,r,p⟩:=h.ok I.hok;exact⟨its,r,p,z⟩
 ·refine⟨its.toList,r,⟨o,I.kIn a o hk,hc,n,by simpa using hs⟩,?_⟩;have e:=r.length;simp only[uT]at e;lia
theorem Inv.list_inj(I:Inv X pins σ H s)(h:SqL X.K H a xs)(h':SqL X.K H a ys):xs=ys:=by
 obtain⟨its,r,⟨o,n,e,_,_,d⟩,_⟩:=I.list h;obtain⟨its',r',⟨o',n',e',_,_,d'⟩,_⟩:=I.list h';rw[e]at e';cases e';rw[d]at d';injection d' with d1 _
 have:its=its':=by simpa using congrArg Array.toList d1
 subst this;exact r.inj r'
theorem Inv.tuple_inj(I:Inv X pins σ H s)(h:SqT X.K H a xs)(h':SqT X.K H a ys):xs=ys:=by
 obtain⟨its,r,⟨o,e,_,n,d⟩,_⟩:=I.tuple h;obtain⟨its',r',⟨o',e',_,n',d'⟩,_⟩:=I.tuple h';rw[e]at e';cases e';rw[d]at d';injection d' with d1 _
 have:its=its':=by simpa using congrArg Array.toList d1
 subst this;exact r.inj r'
end
noncomputable abbrev Cx.wish (X:Cx) (E:Value->Shared->Prop):Cx:={ X with xe:=E }
noncomputable abbrev Cx.nox (X:Cx):Cx:=X.wish λ_ _=>False
theorem Cx.Ok.wish{X:Cx}(ok:X.Ok)(E:Value->Shared->Prop):(X.wish E).Ok:=
 ⟨ok.mod,ok.kind,ok.glob,ok.blt,ok.above,ok.inj,ok.has,ok.cab,ok.hd,ok.frames,ok.stk,ok.exf,ok.bs,ok.bsz,ok.noex,ok.exfs,ok.funs,ok.frf,ok.gds⟩
theorem Cx.Ok.unwish{X:Cx}{E:Value->Shared->Prop}(ok:(X.wish E).Ok):X.Ok:=
 ⟨ok.mod,ok.kind,ok.glob,ok.blt,ok.above,ok.inj,ok.has,ok.cab,ok.hd,ok.frames,ok.stk,ok.exf,ok.bs,ok.bsz,ok.noex,ok.exfs,ok.funs,ok.frf,ok.gds⟩
section
variable {X:Cx}{pins:List (Addr × Obj)}{σ:St}{H:Hp}{s:Shared}{E:Value->Shared->Prop}
theorem Inv.wish(I:Inv X pins σ H s)(E:Value->Shared->Prop):Inv (X.wish E) pins σ H s:=⟨I.ok.wish E,I.os,I.bare,I.base,I.loc,I.cell,I.free,I.freeC,I.pin,I.hok,I.len⟩
theorem Inv.unwish(I:Inv (X.wish E) pins σ H s):Inv X pins σ H s:=⟨I.ok.unwish,I.os,I.bare,I.base,I.loc,I.cell,I.free,I.freeC,I.pin,I.hok,I.len⟩
theorem SP.unwish(h:SP (X.wish E) pins D f s'):SP X pins D f s':=by
 cases f with
 | next=>obtain⟨σ',H',I,q⟩:=h;exact⟨σ',H',I.unwish,q⟩
 | brk=>obtain⟨σ',H',I,q⟩:=h;exact⟨σ',H',I.unwish,q⟩
 | cont=>obtain⟨σ',H',I,q⟩:=h;exact⟨σ',H',I.unwish,q⟩
 | ret u=>obtain⟨v,σ',H',I,r,q⟩:=h;exact⟨v,σ',H',I.unwish,r,q⟩
theorem PT.nox(h:PT X.nox e t):PT X e t:=λpins s σ H Q I hw=>
 vd (h pins s σ H Q (I.wish _) hw) (λ_ _ hz1=>by obtain⟨H',I',q⟩:=hz1;exact ⟨H',I'.unwish,q⟩) λ_ _ z=>False.elim z
theorem PSs.nox{st:List Stmt}{t:TS}(h:PSs X.nox st t):PSs X st t:=λpins s σ H D I hw=>
 vd (h pins s σ H D (I.wish _) hw) (λ_ _ q=>q.unwish) λ_ _ z=>False.elim z
end
section
variable {X:Cx}{st:Stmt}{rest:List Stmt}{t u:TS}{e:Expr}{te:TE}{pos:Pos}
noncomputable def zXj:TS:=λD σ H=>D.nx σ H
noncomputable def tSeq (t u:TS):TS:=λD σ H=>t { D with nx:=u D } σ H
theorem zUe:PSs X [] zXj:=λ_ _ σ H _ I h=>ui ⟨σ,H,I,h⟩
theorem zQg(h1:PS X st t)(h2:PSs X rest u):PSs X (st::rest) (tSeq t u):=by
 intro pins s σ H D I h;refine uB (thn (h1 pins s σ H { D with nx:=u D } I h) λf s1 q=>?_);cases f with
 | next=>
  obtain⟨σ',H',I',q⟩:=q;exact h2 pins s1 σ' H' D I' q
 | ret v=>exact q
 | brk=>exact q
 | cont=>exact q
theorem zUd(h1:PS X st t):PSs X [st] t:=by
 intro pins s σ H D I h;refine uB (thn (h1 pins s σ H D I h) λf s1 q=>?_);cases f with
 | next=>exact ui q
 | ret v=>exact q
 | brk=>exact q
 | cont=>exact q
theorem Inv.quiet(I:Inv X pins σ H s):interactive X.env=false:=by simp[interactive,I.ok.kind]
noncomputable def zTq (te:TE):TS:=λD σ H=>te σ H λ_ H1=>D.nx σ H1
theorem zUh(he:PE X e te)(hs:swapsWith e none pos.line X.env=pure false:=by rfl):PS X (.Expr e pos) (zTq te):=by intro pins s σ H D I h;exact wpAny_Expr_any (thn (he pins s σ H _ I h) λv s1 hz2=>by obtain⟨x,H1,I1,r1,q1⟩:=hz2;exact ⟨σ,H1,I1,q1⟩) I.quiet hs
noncomputable def tRet (te:TE):TS:=λD σ H=>te σ H D.rt
theorem zY4(he:PE X e te):PS X (.Return (some e) pos) (tRet te):=by intro pins s σ H D I h;exact wpAny_Return_some (thn (he pins s σ H _ I h) λv s1 hz3=>by obtain⟨x,H1,I1,r1,q1⟩:=hz3;exact ⟨x,σ,H1,I1,r1,q1⟩)
noncomputable def tIfS (c:TT) (t u:TS):TS:=λD σ H=>c σ H λb H1=>if b=true then t D σ H1 else u D σ H1
theorem yBg(hc:PT X c tc)(ha:PSs X a t)(hb:PSs X b u):PS X (.If c a b pos) (tIfS tc t u):=by
 intro pins s σ H D I h;refine wpAny_If (thn (hc pins s σ H _ I h) λd s1 hq1=>?_);obtain⟨H1,I1,q1⟩:=hq1;cases d with
 | true=>exact ha pins s1 σ H1 D I1 q1
 | false=>exact hb pins s1 σ H1 D I1 q1
end
abbrev TG:=V->St->Hp->(St->Hp->Prop)->Prop
abbrev TGs:=List V->St->Hp->(St->Hp->Prop)->Prop
def PG(X:Cx)(target:Expr)(t:TG):Prop:=
 ∀(pins:List (Addr × Obj)) (s:Shared) (σ:St) (H:Hp) (v:V) (u:Value) (Q:St->Hp->Prop),Inv X pins σ H s->RelV v u->t v σ H Q->
  wpAny (model X.prog X.w) X.A (assign target X.env u) (λ_ s'=>∃σ' H',Inv X pins σ' H' s'/\Q σ' H') X.xe s
def PGs(X:Cx)(ts:List Expr)(t:TGs):Prop:=
 ∀(pins:List (Addr × Obj)) (s:Shared) (σ:St) (H:Hp) (vs:List V) (us:List Value) (Q:St->Hp->Prop),Inv X pins σ H s->Vals vs us->t vs σ H Q->
  wpAny (model X.prog X.w) X.A (assignInOrder ((assignEach ts X.env).map (·.2)) us) (λ_ s'=>∃σ' H',Inv X pins σ' H' s'/\Q σ' H') X.xe s
abbrev TSet:=V->V->V->Hp->(Hp->Prop)->Prop
def PSet(X:Cx)(t:TSet):Prop:=
 ∀(pins:List (Addr × Obj)) (s:Shared) (σ:St) (H:Hp) (o i v:V) (ov iv u:Value) (Q:Hp->Prop),Inv X pins σ H s->RelV o ov->RelV i iv->RelV v u->t o i v H Q->
  wpAny (model X.prog X.w) X.A (setItem ov iv u) (λ_ s'=>∃H',Inv X pins σ H' s'/\Q H') X.xe s
section
variable {X:Cx}{pos:Pos}
noncomputable def gName (i:Nat):TG:=λv σ H Q=>Q (σ.set i (some v)) H
theorem zUm(hN:X.N.Nodup)(hi:X.N[i]?=some x)(hx:Loc X.env.scope x)(hf:X.fn x=true\/X.env.scope.names.lookup x=some .local:=by first|exact .inl rfl|exact .inr rfl|assumption):PG X (.Name x pos) (gName i):=by intro pins s σ H v u Q I r h;exact wpAny_assign_Name (zJp I hN hi hx r (λs' I'=>⟨_,H,I',h⟩) hf)
noncomputable def gNil:TGs:=λvs σ H Q=>vs=[]/\Q σ H
noncomputable def zW3 (t:TG) (u:TGs):TGs:=λvs σ H Q=>∃v r,vs=v::r/\t v σ H λσ' H'=>u r σ' H' Q
theorem zUk:PGs X [] gNil:=by intro pins s σ H vs us Q I r h;obtain⟨e,h⟩:=h;subst e;cases r;exact assignInOrder_nil ⟨σ,H,I,h⟩
theorem zQo(h1:PG X e t)(h2:PGs X es u)
  (hs:(assignEach (e::es) X.env).map (·.2)=assign e X.env::(assignEach es X.env).map (·.2):=by rfl):PGs X (e::es) (zW3 t u):=by
 intro pins s σ H vs us Q I r h;obtain⟨v,vr,e1,h⟩:=h;subst e1;cases r with
 | cons r rr=>
  rw[hs];refine assignInOrder_cons (thn (h1 pins s σ H _ _ _ I r h) λ_ s1 hq1=>?_);obtain⟨σ1,H1,I1,q1⟩:=hq1;exact h2 pins s1 σ1 H1 _ _ Q I1 rr q1
noncomputable def gTup (K:PySem.W.Frag) (n:Nat) (t:TGs):TG:=λv σ H Q=>∃a xs,v=.ref a/\SqT K H a xs/\xs.length=n/\t xs σ H Q
theorem zY9{k:Nat}{n:Nat}(hc:X.calm=true)(h:PGs X es t)
  (hn:(assignEach es X.env).length=n:=by rfl) (hst:(assignEach es X.env).findIdx? (·.1)=none:=by rfl):PG X (.Tuple es k pos) (gTup X.K n t):=by
 intro pins s σ H v u Q I r hw;obtain⟨a,xs,e1,hq,hl,hw⟩:=hw;subst e1;cases r;obtain⟨its,rv,ht,hz⟩:=I.tuple hq;refine assign_Tuple_tuple (I.ok.hd hc) ht (by simp[hn,<- hl,rv.length]) hst λh' hx=>?_
 have I1:Inv X pins σ H { s with heap:=h' }:=I.kept (t':=s.toks) λb o e=>hx b o (xy (xn e)) e
 exact h pins _ σ H xs _ Q I1 (by simpa using rv) hw
noncomputable def gSub (to ti:TE) (t:TSet):TG:=λv σ H Q=>to σ H λo H1=>ti σ H1 λi H2=>t o i v H2 λH3=>Q σ H3
theorem zYa(ho:PE X o to)(hi:PE X i ti)(hs:PSet X t)
  (ha:∀v,assign (.Subscript o i pos) X.env v=(do
   let ov <- holding [v] (eval o X.env)
   let iv <- holding [v,ov] (eval i X.env)
   standAt pos
   holding [v,ov,iv] (setItem ov iv v)
   release [v,ov,iv] []):=by intro _;rfl):PG X (.Subscript o i pos) (gSub to ti t):=by
 intro pins s σ H v u Q I r h;rw[ha];refine xa (xS (thn (ho pins s σ H _ I h) λov s1 hq1=>?_));obtain⟨x,H1,I1,r1,q1⟩:=hq1;refine xa (xS (thn (hi pins s1 σ H1 _ I1 q1) λiv s2 hq1=>?_));obtain⟨y,H2,I2,r2,q2⟩:=hq1;refine xa (uj (xa (xS (thn (hs pins s2 σ H2 x y v ov iv u _ I2 r1 r2 r q2) λ_ s3 hq1=>?_))));obtain⟨H3,I3,q3⟩:=hq1;exact wpAny_release ⟨σ,H3,I3,q3⟩
noncomputable def tAsg (te:TE) (g:TG):TS:=λD σ H=>te σ H λx H1=>g x σ H1 D.nx
theorem zSh(he:PE X e te)(hg:PG X tg g)(hs:swapsWithSole [tg] e pos.line X.env=pure false:=by rfl)(hw:swappedStores [tg] e X.env=pure none:=by rfl)
  (h1:(assignEach [tg] X.env).map (·.2)=[assign tg X.env]:=by rfl):PS X (.Assign [tg] e pos) (tAsg te g):=by
 intro pins s σ H D I h;refine wpAny_Assign_stores (thn (he pins s σ H _ I h) λv s1 hq1=>?_) hs hw;obtain⟨x,H1,I1,r1,q1⟩:=hq1;rw[h1];exact thn (hg pins s1 σ H1 x v _ I1 r1 q1) λ_ s2 q=>q
theorem zY3{i:Nat}(hN:X.N.Nodup)(hi:X.N[i]?=some x)(hx:Loc X.env.scope x)(he:PE X e te)(hs:swapsWith e (some (.Name x pos')) pos.line X.env=pure false:=by rfl)(hf:X.fn x=true\/X.env.scope.names.lookup x=some .local:=by first|exact .inl rfl|exact .inr rfl|assumption):
  PS X (.Assign [.Name x pos'] e pos) (tAsg te (gName i)):=by
 intro pins s σ H D I h;refine wpAny_Assign_Name (thn (he pins s σ H _ I h) λv s1 hq1=>?_) hs;obtain⟨y,H1,I1,r1,q1⟩:=hq1;exact zJp I1 hN hi hx r1 (λs2 I2=>⟨_,H1,I2,q1⟩) hf
noncomputable def zSa (c:TT) (tb:TS):TS:=λD σ H=>∃W:Nat->St->Hp->Prop,(∃m,W m σ H)/\∀m σ H,W m σ H->
 c σ H λb H1=>if b=true then ∃N:St->Hp->Prop,(∀σ' H',N σ' H'->∃m',m'<m/\W m' σ' H')/\tb { D with nx:=N,ct:=N,bk:=D.nx } σ H1 else D.nx σ H1
theorem zQh(hp:PassesOwn (model X.prog X.w) X.A X.env X.xe)(hc:PT X c tc)(hb:PSs X body tb):PS X (.While c body [] pos) (zSa tc tb):=by
 intro pins s σ H D I h;obtain⟨W,⟨m0,w0⟩,turn⟩:=h;refine wpAny_While (codeAny_whileLoop (λn s'=>∃σ' H',Inv X pins σ' H' s'/\W n σ' H') ?_ m0 ⟨σ,H,I,w0⟩);rintro n s1 ⟨σ1,H1,I1,w1⟩;refine vm hp (thn (hc pins s1 σ1 H1 _ I1 (turn n σ1 H1 w1)) λb s2 hq1=>?_);obtain⟨H2,I2,q2⟩:=hq1;cases b with
 | true=>
  obtain⟨N,hN,q2⟩:=q2;rw[xc rfl];refine vm hp (thn (hb pins s2 σ1 H2 _ I2 q2) λf s3 q3=>?_);cases f with
  | next=>
   obtain⟨σ3,H3,I3,n3⟩:=q3;obtain⟨m',hm,w3⟩:=hN σ3 H3 n3;exact⟨m',hm,σ3,H3,I3,w3⟩
  | cont=>
   obtain⟨σ3,H3,I3,n3⟩:=q3;obtain⟨m',hm,w3⟩:=hN σ3 H3 n3;exact⟨m',hm,σ3,H3,I3,w3⟩
  | brk=>exact q3
  | ret v=>exact q3
 | false=>
  rw[xf xV];exact ui ⟨σ1,H2,I2,q2⟩
end
structure It where
 go:Nat->Hp->Prop
 yld:Nat->Hp->V->Hp->Prop
 stop:Nat->Hp->Prop
def FpOk(X:Cx)(pins:List (Addr × Obj))(H:Hp)(b:Addr):Prop:=
 H b=none/\b≠X.env.locals/\b ∉ X.fs/\(b∈X.ex\/X.s₀.heap.objs.size<=b)/\(∀x c,X.env.cells.lookup x=some c->c≠b)/\∀p∈X.pn++pins,p.1≠b
theorem Inv.fpOk{H':Hp}{s:Shared}(I:Inv X pins σ H s)(hb:s.heap.objs.size<=b)(hn:H' b=none):FpOk X pins H' b:=by
 refine⟨hn,xX (xw I.lt hb),I.nofs hb,.inr (xq I.sz hb),λx c e z=>?_,λp hp z=>?_⟩
 ·obtain⟨v,q⟩:=I.cell x c e;exact absurd (xw q.lt (by rw[z];exact hb)) (vk _)
 ·exact absurd (xw (xn (I.pin p hp).1) (by rw[z];exact hb)) (vk _)
structure Turn (P:Program) (w:World) (K:PySem.W.Frag) (tg:Expr) (J:It) (fp:List Addr) (it:Addr) (tn:Nat->Heap->Prop):Prop where
 mem:it∈fp
 obj:∀i h,tn i h->∀b∈fp,∃o,h.get? b=some o/\∀v,o.data≠.cell v
 keep:∀i h h',tn i h->(∀b∈fp,∀o,h.get? b=some o->h'.get? b=some o)->tn i h'
 item:∀(X:Cx),X.prog=P->X.w=w->X.K=K->X.calm=true->∀(i:Nat) (pins:List (Addr × Obj)) (s:Shared) (σ:St) (H:Hp) (E:Value->Shared->Prop),Inv X pins σ H s->(∀b∈fp,FpOk X pins H b)->tn i s.heap->J.go i H->
  wpAny (model P w) X.A (pyNext (.ref it)) (λr s1=>∃u,r=some u /\
   wpAny (model P w) X.A (letOwnedTupleGo tg (.ref it) u) (λ_ s2=>∃x H',Inv X pins σ H' s2/\RelV x u/\J.yld i H x H'/\tn (i+1) s2.heap/\∀b∈fp,H' b=none) E s1) E s
 done:∀(X:Cx),X.prog=P->X.w=w->X.K=K->X.calm=true->∀(i:Nat) (pins:List (Addr × Obj)) (s:Shared) (σ:St) (H:Hp) (E:Value->Shared->Prop),Inv X pins σ H s->(∀b∈fp,FpOk X pins H b)->tn i s.heap->J.stop i H->
  wpAny (model P w) X.A (pyNext (.ref it)) (λr s1=>r=none/\Inv X pins σ H s1) E s
 self:∀(A:Around) (i:Nat) (s:Shared) (Q:Value->Shared->Prop) (E:Value->Shared->Prop),tn i s.heap->Q (.ref it) s->wpAny (model P w) A (pyIter (.ref it)) Q E s
abbrev TI:=St->Hp->(It->Hp->Prop)->Prop
def PIE(X:Cx)(pins:List (Addr × Obj))(σ:St)(tg:Expr)(R:It->Hp->Prop)(y:Value)(s2:Shared):Prop:=
 ∃(it:Addr) (fp:List Addr) (tn:Nat->Heap->Prop) (J:It) (H':Hp),y=.ref it/\Inv X pins σ H' s2/\Turn X.prog X.w X.K tg J fp it tn/\tn 0 s2.heap/\(∀b∈fp,FpOk X pins H' b)/\R J H'
def PI(X:Cx)(tg iter:Expr)(wi:TI):Prop:=
 ∀(pins:List (Addr × Obj)) (s:Shared) (σ:St) (H:Hp) (R:It->Hp->Prop),Inv X pins σ H s->wi σ H R->
  wpAny (model X.prog X.w) X.A (eval iter X.env) (λv s1=>wpAny (model X.prog X.w) X.A (pyIter v) (PIE X pins σ tg R) X.xe s1) X.xe s
theorem zO2{M:Model}{A:Around}{E:Value->Shared->Prop}{s:Shared}{tg:Expr}{u:Value}{o:Obj}{Q:Unit->Shared->Prop}(ho:s.heap.get? it=some o)(hc:o.cls=.type n)(hd:o.data=.fields vs)
    (hn:["enumerate","zip","dict_itemiterator","dict_reverseitemiterator","odict_iterator","itertools.zip_longest","itertools.pairwise"].contains n=false) (hQ:Q () s):wpAny M A (letOwnedTupleGo tg (.ref it) u) Q E s:=by
  unfold letOwnedTupleGo;cases tg <;> first
    | exact xg hQ
    | (cases u <;> first
        | exact xg hQ
        | (refine xa (wpAny_load ho ?_)
           rw[hc,hd];show wpAny M A (if(["enumerate","zip","dict_itemiterator","dict_reverseitemiterator","odict_iterator","itertools.zip_longest","itertools.pairwise"].contains n && vs[0]? == some (rawInt _))=true then _ else _) Q E s;rw[xf (by intro h;rw[hn,Bool.false_and]at h;cases h)];exact xg hQ))
noncomputable def Itl (K:PySem.W.Frag) (a:Addr):It:=
 ⟨λi H=>∃xs x,SqL K H a xs/\xs[i]?=some x,λi H x H'=>H'=H/\∀xs,SqL K H a xs->xs[i]?=some x,λi H=>∃xs,SqL K H a xs/\xs.length<=i⟩
noncomputable def Itt (K:PySem.W.Frag) (a:Addr):It:=
 ⟨λi H=>∃xs x,SqT K H a xs/\xs[i]?=some x,λi H x H'=>H'=H/\∀xs,SqT K H a xs->xs[i]?=some x,λi H=>∃xs,SqT K H a xs/\xs.length<=i⟩
noncomputable def Itr (lo:Int) (n:Nat):It:=⟨λi _=>i<n,λi H x H'=>H'=H/\x=.int (lo+i),λi _=>n<=i⟩
theorem zM9{P:Program}{w:World}{K:PySem.W.Frag}{tg:Expr}(a it:Addr):Turn P w K tg (Itl K a) [it] it (λi h=>h.IsListIter it a i) where
 mem:=by simp
 obj:=λi h st b hb=>by
  have e:b=it:=by simpa using hb
  subst e;obtain⟨o,e,c,d⟩:=st;exact⟨o,e,λv z=>by rw[d]at z;cases z⟩
 keep:=λi h h' st k=>st.at λo e=>k it (by simp) o e
 item:=by
  intro X hP hw hK hc i pins s σ H E I hf st hg;subst hP hw hK;obtain⟨xs,x,hq,hx⟩:=hg;obtain⟨its,rv,p,hz⟩:=I.list hq;obtain⟨u,hu,ru⟩:=rv.get hx;obtain⟨f0,f1,f2,f3,f4,f5⟩:=hf it (by simp);refine wpAny_pyNext_list_item st p.isList (x:=u) (by simpa using hu) λh' st' sb=>?_
  have I1:Inv X pins σ H { s with heap:=h' }:=I.turned (t':=s.toks) (λb o hb e=>(sb.2 b hb).trans e) f0 f1 f3 f4 f5;obtain⟨o,e,c,d⟩:=id st';exact⟨u,rfl,zO2 (s:={ s with heap:=h' }) e c d (by decide) ⟨x,H,I1,ru,⟨rfl,λys hy=>by rw[I.list_inj hy hq];exact hx⟩,st',λb hb=>(hf b hb).1⟩⟩
 done:=by intro X hP hw hK hc i pins s σ H E I hf st hg;subst hP hw hK;obtain⟨xs,hq,hx⟩:=hg;obtain⟨its,rv,p,hz⟩:=I.list hq;obtain⟨f0,f1,f2,f3,f4,f5⟩:=hf it (by simp);have hl:=rv.length;exact wpAny_pyNext_list_end (I.ok.hd hc) st p.isList (by simp;lia) λh' eb=>⟨rfl,I.turned (t':=s.toks) (λb o hb e=>eb b o hb e) f0 f1 f3 f4 f5⟩
 self:=λ_ _ _ _ _ st h=>wpAny_pyIter_listiter st h
theorem zKo{P:Program}{w:World}{K:PySem.W.Frag}{tg:Expr}(a it:Addr):Turn P w K tg (Itt K a) [it] it (λi h=>h.IsTupleIter it a i) where
 mem:=by simp
 obj:=λi h st b hb=>by
  have e:b=it:=by simpa using hb
  subst e;obtain⟨o,e,c,d⟩:=st;exact⟨o,e,λv z=>by rw[d]at z;cases z⟩
 keep:=λi h h' st k=>st.at λo e=>k it (by simp) o e
 item:=by
  intro X hP hw hK hc i pins s σ H E I hf st hg;subst hP hw hK;obtain⟨xs,x,hq,hx⟩:=hg;obtain⟨its,rv,p,hz⟩:=I.tuple hq;obtain⟨u,hu,ru⟩:=rv.get hx;obtain⟨f0,f1,f2,f3,f4,f5⟩:=hf it (by simp);refine wpAny_pyNext_tuple_item st (show s.heap.IsTuple a its.toArray from p) (x:=u) (by simpa using hu) λh' st' sb=>?_
  have I1:Inv X pins σ H { s with heap:=h' }:=I.turned (t':=s.toks) (λb o hb e=>(sb.2 b hb).trans e) f0 f1 f3 f4 f5;obtain⟨o,e,c,d⟩:=id st';exact⟨u,rfl,zO2 (s:={ s with heap:=h' }) e c d (by decide) ⟨x,H,I1,ru,⟨rfl,λys hy=>by rw[I.tuple_inj hy hq];exact hx⟩,st',λb hb=>(hf b hb).1⟩⟩
 done:=by intro X hP hw hK hc i pins s σ H E I hf st hg;subst hP hw hK;obtain⟨xs,hq,hx⟩:=hg;obtain⟨its,rv,p,hz⟩:=I.tuple hq;obtain⟨f0,f1,f2,f3,f4,f5⟩:=hf it (by simp);have hl:=rv.length;exact wpAny_pyNext_tuple_end (I.ok.hd hc) st (show s.heap.IsTuple a its.toArray from p) (by simp;lia) λh' eb=>⟨rfl,I.turned (t':=s.toks) (λb o hb e=>eb b o hb e) f0 f1 f3 f4 f5⟩
 self:=λ_ _ _ _ _ st h=>wpAny_pyIter_tupleiter st h
theorem zKp{P:Program}{w:World}{K:PySem.W.Frag}{tg:Expr}(it:Addr)(lo:Int)(n:Nat):Turn P w K tg (Itr lo n) [it] it (λi h=>IsRangeIter h it (lo+(i:Nat)*1) ((n:Int)-(i:Nat)) 1) where
 mem:=by simp
 obj:=λi h st b hb=>by
  have e:b=it:=by simpa using hb
  subst e;exact⟨_,st,λv z=>by
   have z':Data.fields _=Data.cell v:=z;cases z'⟩
 keep:=λi h h' st k=>k it (by simp) _ st
 item:=by
  intro X hP hw hK hc i pins s σ H E I hf st hg;subst hP hw hK;obtain⟨f0,f1,f2,f3,f4,f5⟩:=hf it (by simp);have W:=Walks.range (prog:=X.prog) (w:=X.w) (I.ok.hd hc) it lo 1 n;refine W.item i s _ _ hg st λv h' tk hv st' kk=>?_
  obtain⟨t,rfl⟩:=hv;have I1:Inv X pins σ H { s with heap:=h',toks:=tk }:=I.turned (λb o hb e=>kk b o (by simpa using hb) e) f0 f1 f3 f4 f5;refine⟨_,rfl,zO2 (s:={ s with heap:=h',toks:=tk }) (n:="range_iterator") st' rfl rfl (by decide) ⟨.int (lo+i),H,I1,⟨t,?_⟩,⟨rfl,rfl⟩,st',λb hb=>(hf b hb).1⟩⟩;rw[Int.mul_one]
 done:=by intro X hP hw hK hc i pins s σ H E I hf st hg;subst hP hw hK;obtain⟨f0,f1,f2,f3,f4,f5⟩:=hf it (by simp);exact wpAny_pyNext_range_end (I.ok.hd hc) st (by have:n<=i:=hg;lia) λh' eb=>⟨rfl,I.turned (t':=s.toks) (λb o hb e=>eb b o hb e) f0 f1 f3 f4 f5⟩
 self:=λ_ _ _ _ _ st h=>wpAny_pyIter_rangeiter st h
section
variable {X:Cx}{tg:Expr}
theorem zQb{R:It->Hp->Prop}{E:Value->Shared->Prop}{lo hi:Int}{t u v:Tok}{tk:Nat}(I:Inv X pins σ H s)(h1:-(2 ^ 62)<=lo)(h2:lo<2 ^ 62)(h3:-(2 ^ 62)<=hi)(h4:hi<2 ^ 62)
  (q:R (Itr lo (hi-lo).toNat) H):wpAny (model X.prog X.w) X.A (pyIter (.ref s.heap.objs.size)) (PIE X pins σ tg R) E { s with heap:=s.heap.push { cls:=.type "range",data:=.fields #[.int lo t,.int hi u,.int 1 v] },toks:=tk }:=by
 refine wpAny_pyIter_range (IsRange.new ..) (small_one h1 h2 h3 h4) ?_;have I1:Inv X pins σ H { s with heap:=s.heap.push { cls:=.type "range",data:=.fields #[.int lo t,.int hi u,.int 1 v] },toks:=tk }:=I.kept λb o e=>xm _ e
 refine⟨(s.heap.push { cls:=.type "range",data:=.fields #[.int lo t,.int hi u,.int 1 v] }).objs.size,[(s.heap.push { cls:=.type "range",data:=.fields #[.int lo t,.int hi u,.int 1 v] }).objs.size],_,_,H,rfl,
  I1.kept (t':=tk) λb o e=>xm _ e,zKp _ lo (hi-lo).toNat,?_,λb hb=>?_,q⟩
 ·have e1:lo+((0:Nat):Int)*1=lo:=by simp
  have e2:(((hi-lo).toNat:Nat):Int)-((0:Nat):Int)=Builtin.Range.rangeSize lo hi 1:=by rw[rangeSize_one];split <;> lia
  show IsRangeIter _ _ (lo+((0:Nat):Int)*1) ((((hi-lo).toNat:Nat):Int)-((0:Nat):Int)) 1;rw[e1,e2];exact xD _ rfl
 ·have e:b=(s.heap.push { cls:=.type "range",data:=.fields #[.int lo t,.int hi u,.int 1 v] }).objs.size:=by simpa using hb
  subst e;exact I1.fpOk (xh _) (I1.hok.fresh (xh _))
noncomputable def zVy (ta:TA):TI:=λσ H R=>ta σ H λvs H1=>∃j:Int,vs=[.int j]/\-(2 ^ 62)<=j/\j<2 ^ 62/\R (Itr 0 j.toNat) H1
theorem zMy(hg:Gl X "range")(hm:X.mg "range"=none)(ha:PA X [a] ta)(hs:starEach [a] X.env=[(false,eval a X.env)]:=by rfl):PI X tg (.Call (.Name "range" p) [a] [] pos) (zVy ta):=by
 intro pins s σ H R I h;refine Call_ (zE0 I hg hm boot_range (uk (thn (ha pos pins s σ H _ I h) λus s1 hq1=>?_) hs rfl));obtain⟨vs,H1,I1,r1,q1⟩:=hq1;obtain⟨j,e,q1,q2,q⟩:=q1;subst e;cases r1 with
 | cons r rr=>
  cases rr;obtain⟨t,rfl⟩:=r;exact call_range_1 (zQb I1 (by nofun) (by nofun) q1 q2 (by simpa using q))
noncomputable def tFor (wi:TI) (g:TG) (tb:TS):TS:=λD σ H=>wi σ H λJ H1=>∃W:Nat->Nat->St->Hp->Prop,(∃m,W 0 m σ H1)/\∀i m σ H,W i m σ H->
 (J.stop i H/\D.nx σ H)\/(J.go i H/\∃N:St->Hp->Prop,(∀σ' H',N σ' H'->∃m',m'<m/\W (i+1) m' σ' H')/\∀x H',J.yld i H x H'->g x σ H' λσ2 H2=>tb { D with nx:=N,ct:=N,bk:=D.nx } σ2 H2)
noncomputable def zH4 (fp:List Addr) (h:Heap):List (Addr × Obj):=fp.filterMap λb=>(h.get? b).map λo=>(b,o)
theorem zD1{h:Heap}(hb:b∈fp)(e:h.get? b=some o):(b,o)∈zH4 fp h:=List.mem_filterMap.mpr ⟨b,hb,by rw[e];rfl⟩
theorem zN8{h:Heap}{p:Addr × Obj}(hp:p∈zH4 fp h):p.1∈fp/\h.get? p.1=some p.2:=by
 obtain⟨b,hb,e⟩:=List.mem_filterMap.mp hp;cases q:h.get? b with
 | none=>rw[q]at e;cases e
 | some o=>
  rw[q]at e;have e':(b,o)=p:=xB e;subst e';exact⟨hb,q⟩
theorem Inv.pinned{s:Shared}(I:Inv X pins σ H s)(hf:∀b∈fp,FpOk X pins H b)(ho:∀b∈fp,∃o,s.heap.get? b=some o/\∀v,o.data≠.cell v):Inv X (pins++zH4 fp s.heap) σ H s:=
 I.pins_of λp hp=>(xH.mp hp).elim (λz=>I.pin p (xI _ z)) λz=>by
  obtain⟨hb,e⟩:=zN8 z;obtain⟨f0,f1,f2,_⟩:=hf p.1 hb;obtain⟨o,e',d⟩:=ho p.1 hb;rw[e]at e';cases e';exact⟨e,f0,f1,f2,d⟩
theorem Inv.unpinned(I:Inv X (pins++pl) σ H s):Inv X pins σ H s:=I.pins_of λp hp=>I.pin p (xI _ (vf _ hp))
theorem zY6{pos:Pos}(hp:PassesOwn (model X.prog X.w) X.A X.env X.xe)(hc:X.calm=true)(hi:PI X tg iter wi)(hg:PG X tg g)(hb:PSs X body tb)
  (hs:∀x,foldedSetIterable iter X.env x=pure x:=by intro _;rfl):PS X (.For tg iter body [] pos) (tFor wi g tb):=by
 intro pins s σ H D I h;refine wpAny_For (thn (hi pins s σ H _ I h) λv s1 h1=>thn h1 λy s2 h2=>?_) hs;obtain⟨it,fp,tn,J,H2,e,I2,T,st2,f2,W,⟨m0,w0⟩,turn⟩:=h2;subst e
 -- what stays true of the iterator's objects through the loop
 have stat:∀{H':Hp},(∀b∈fp,H' b=none)->∀b∈fp,FpOk X pins H' b:=λhn b hb=>⟨hn b hb,(f2 b hb).2⟩
 refine codeAny_forLoop_any (λn s'=>∃i σ' H',Inv X pins σ' H' s'/\tn i s'.heap/\(∀b∈fp,H' b=none)/\W i n σ' H') ?_ m0 ⟨0,σ,H2,I2,st2,λb hb=>(f2 b hb).1,w0⟩;rintro n s3 ⟨i,σ3,H3,I3,st3,fr3,w3⟩;rcases turn i n σ3 H3 w3 with⟨stop,qn⟩|⟨go,N,hN,step⟩
 ·refine vm hp (thn (T.done X rfl rfl rfl hc i pins s3 σ3 H3 X.xe I3 (stat fr3) st3 stop) λr s4 hq1=>?_);obtain⟨hr,I4⟩:=hq1;subst hr;exact ui ⟨σ3,H3,I4,qn⟩
 ·refine vm hp (thn (T.item X rfl rfl rfl hc i pins s3 σ3 H3 X.xe I3 (stat fr3) st3 go) λr s4 hq1=>?_);obtain⟨u,hr,h4⟩:=hq1;subst hr;refine vm hp (thn h4 λ_ s5 hq1=>?_);obtain⟨x,H5,I5,r5,y5,st5,fr5⟩:=hq1;have I5':=I5.pinned (stat fr5) (T.obj _ _ st5);refine vm hp (thn (hg _ s5 σ3 H5 x u _ I5' r5 (step x H5 y5)) λ_ s6 hq1=>?_);obtain⟨σ6,H6,I6,q6⟩:=hq1;refine vm hp (thn (hb _ s6 σ6 H6 _ I6 q6) λf s7 q7=>?_);have again:∀{σ7:St}{H7:Hp},Inv X (pins++zH4 fp s5.heap) σ7 H7 s7->N σ7 H7->∃m,m<n/\∃i σ' H',Inv X pins σ' H' s7/\tn i s7.heap/\(∀b∈fp,H' b=none)/\W i m σ' H':=λ{σ7 H7} I7 n7=>by
   obtain⟨m',hm,w7⟩:=hN σ7 H7 n7;refine⟨m',hm,i+1,σ7,H7,I7.unpinned,T.keep _ _ _ st5 λb hb o e=>(I7.pin (b,o) (xI _ (xI _ (zD1 hb e)))).1,λb hb=>?_,w7⟩;obtain⟨o,e,d⟩:=T.obj _ _ st5 b hb;exact(I7.pin (b,o) (xI _ (xI _ (zD1 hb e)))).2.1
  cases f with
  | next=>obtain⟨σ7,H7,I7,n7⟩:=q7;exact again I7 n7
  | cont=>obtain⟨σ7,H7,I7,n7⟩:=q7;exact again I7 n7
  | brk=>obtain⟨σ7,H7,I7,q7⟩:=q7;exact⟨σ7,H7,I7.unpinned,q7⟩
  | ret v=>obtain⟨x7,σ7,H7,I7,r7,q7⟩:=q7;exact⟨x7,σ7,H7,I7.unpinned,r7,q7⟩
end
abbrev R2:=V->V->Hp->VK->Prop
def OpR(X:Cx)(f:Value->Value->Sem Value)(r:R2):Prop:=
 ∀(pins:List (Addr × Obj)) (s:Shared) (σ:St) (H:Hp) (x y:V) (v u:Value) (Q:VK),Inv X pins σ H s->RelV x v->RelV y u->r x y H Q->
  wpAny (model X.prog X.w) X.A (f v u) (EP X pins σ Q) X.xe s
def UnR(X:Cx)(f:Value->Sem Value)(r:V->Hp->VK->Prop):Prop:=
 ∀(pins:List (Addr × Obj)) (s:Shared) (σ:St) (H:Hp) (x:V) (v:Value) (Q:VK),Inv X pins σ H s->RelV x v->r x H Q->
  wpAny (model X.prog X.w) X.A (f v) (EP X pins σ Q) X.xe s
def zB9(X:Cx)(f:Value)(r:List V->Hp->VK->Prop):Prop:=
 ∀(pins:List (Addr × Obj)) (s:Shared) (σ:St) (H:Hp) (xs:List V) (us:List Value) (Q:VK),Inv X pins σ H s->Vals xs us->r xs H Q->
  wpAny (model X.prog X.w) X.A (call f us) (EP X pins σ Q) X.xe s
def TruR(X:Cx)(r:V->Hp->(Bool->Hp->Prop)->Prop):Prop:=
 ∀(pins:List (Addr × Obj)) (s:Shared) (σ:St) (H:Hp) (x:V) (v:Value) (Q:Bool->Hp->Prop),Inv X pins σ H s->RelV x v->r x H Q->
  wpAny (model X.prog X.w) X.A (truthy v) (TP X pins σ Q) X.xe s
noncomputable def tOp (r:R2) (ta tb:TE):TE:=λσ H Q=>ta σ H λx H1=>tb σ H1 λy H2=>r x y H2 Q
noncomputable def tUn (r:V->Hp->VK->Prop) (ta:TE):TE:=λσ H Q=>ta σ H λx H1=>r x H1 Q
noncomputable def rI (C:Int->Int->Prop) (g:Int->Int->V):R2:=λx y H Q=>∃i j,x=.int i/\y=.int j/\C i j/\Q (g i j) H
noncomputable def rI0 (g:Int->Int->V):R2:=λx y H Q=>∃i j,x=.int i/\y=.int j/\Q (g i j) H
def rU(g:Int->V):V->Hp->VK->Prop:=λx H Q=>∃i,x=.int i/\Q (g i) H
section
variable {X:Cx}{a b c:Expr}{ta tb tc:TE}{pos:Pos}
theorem binT(ha:PE X a ta)(hb:PE X b tb){R:V->V->Hp->Prop}(I:Inv X pins σ H s)
  (h:ta σ H λx H1=>tb σ H1 λy H2=>R x y H2) {Q:Value->Shared->Prop}{f:Value->Value->Sem Value}
  (hf:∀v u s2 x y H2,Inv X pins σ H2 s2->RelV x v->RelV y u->R x y H2->wpAny (model X.prog X.w) X.A (f v u) Q X.xe s2):
  wpAny (model X.prog X.w) X.A (eval a X.env) (λv s₁=>wpAny (model X.prog X.w) X.A (eval b X.env) (λu s₂=>wpAny (model X.prog X.w) X.A (f v u) Q X.xe s₂) X.xe s₁) X.xe s:=by
 refine thn (ha pins s σ H _ I h) λv s1 hq1=>?_
 obtain⟨x,H1,I1,r1,q1⟩:=hq1;refine thn (hb pins s1 σ H1 _ I1 q1) λu s2 hq1=>?_
 obtain⟨y,H2,I2,r2,q2⟩:=hq1;exact hf v u s2 x y H2 I2 r1 r2 q2
theorem yBj(ho:OpR X (binaryOp op) r)(ha:PE X a ta)(hb:PE X b tb):PE X (.BinOp a op b pos) (tOp r ta tb):=by intro pins s σ H Q I h;exact wpAny_BinOp (binT ha hb I h λv u s2 x y H2 I2 rx ry q=>ho pins s2 σ H2 x y v u Q I2 rx ry q)
theorem yBh{r:V->Hp->VK->Prop}(ho:UnR X (unaryOp op) r)(ha:PE X a ta):PE X (.UnaryOp op a pos) (tUn r ta):=by intro pins s σ H Q I h;exact UnaryOp_ (thn (ha pins s σ H _ I h) λv s1 hz4=>by obtain⟨x,H1,I1,r1,q1⟩:=hz4;exact ho pins s1 σ H1 x v Q I1 r1 q1)
theorem opI{f:Value->Value->Sem Value}{C:Int->Int->Prop}{g:Int->Int->Int}
  (rule:∀(i j:Int) (t u:Tok) (s:Shared) (Q:Value->Shared->Prop) (E:Value->Shared->Prop),C i j->Q (.int (g i j) s.toks) { s with toks:=s.toks+1 }->wpAny (model X.prog X.w) X.A (f (.int i t) (.int j u)) Q E s):
  OpR X f (rI C λi j=>.int (g i j)):=by
 intro pins s σ H x y v u Q I rx ry h;obtain⟨i,j,rfl,rfl,hc,q⟩:=h;obtain⟨t,rfl⟩:=rx;obtain⟨t',rfl⟩:=ry;exact rule i j t t' s _ _ hc ⟨.int (g i j),H,I.tok _,⟨_,rfl⟩,q⟩
theorem opI0{f:Value->Value->Sem Value}{g:Int->Int->Int}
  (rule:∀(i j:Int) (t u:Tok) (s:Shared) (Q:Value->Shared->Prop) (E:Value->Shared->Prop),Q (.int (g i j) s.toks) { s with toks:=s.toks+1 }->wpAny (model X.prog X.w) X.A (f (.int i t) (.int j u)) Q E s):
  OpR X f (rI0 λi j=>.int (g i j)):=by
 intro pins s σ H x y v u Q I rx ry h;obtain⟨i,j,rfl,rfl,q⟩:=h;obtain⟨t,rfl⟩:=rx;obtain⟨t',rfl⟩:=ry;exact rule i j t t' s _ _ ⟨.int (g i j),H,I.tok _,⟨_,rfl⟩,q⟩
theorem opB0{f:Value->Value->Sem Value}{g:Int->Int->Bool}
  (rule:∀(i j:Int) (t u:Tok) (s:Shared) (Q:Value->Shared->Prop) (E:Value->Shared->Prop),Q (.bool (g i j)) s->wpAny (model X.prog X.w) X.A (f (.int i t) (.int j u)) Q E s):
  OpR X f (rI0 λi j=>.bl (g i j)):=by
 intro pins s σ H x y v u Q I rx ry h;obtain⟨i,j,rfl,rfl,q⟩:=h;obtain⟨t,rfl⟩:=rx;obtain⟨t',rfl⟩:=ry;exact rule i j t t' s _ _ ⟨.bl (g i j),H,I,rfl,q⟩
def CPow(i j:Int):Prop:=0<=j/\j<=1000000/\i.natAbs<2 ^ 64
theorem zZ1:OpR X (binaryOp .Add) (rI0 λi j=>.int (i+j)):=opI0 λ_ _ _ _ _ _ _ q=>add_int q
theorem zYt:OpR X (binaryOp .Sub) (rI0 λi j=>.int (i-j)):=opI0 λ_ _ _ _ _ _ _ q=>sub_int q
theorem zYv:OpR X (binaryOp .Mod) (rI (λ_ j=>0<j) λi j=>.int (i % j)):=opI λi j _ _ _ _ _ hc q=>by
 have h1:(0:Int)<j:=hc;exact mod_int' (by nofun) (by rw[Int.fmod_eq_emod_of_nonneg i (by nofun)];exact q)
theorem zYu:OpR X (binaryOp .Pow) (rI CPow λi j=>.int (i ^ j.toNat)):=opI λ_ _ _ _ _ _ _ hc q=>pow_int_small hc.1 hc.2.1 hc.2.2 q
theorem unI{f:Value->Sem Value}{g:Int->Int}
  (rule:∀(i:Int) (t:Tok) (s:Shared) (Q:Value->Shared->Prop) (E:Value->Shared->Prop),Q (.int (g i) s.toks) { s with toks:=s.toks+1 }->wpAny (model X.prog X.w) X.A (f (.int i t)) Q E s):
  UnR X f (rU λi=>.int (g i)):=by
 intro pins s σ H x v Q I rx h;obtain⟨i,rfl,q⟩:=h;obtain⟨t,rfl⟩:=rx;exact rule i t s _ _ ⟨.int (g i),H,I.tok _,⟨_,rfl⟩,q⟩
theorem zXa:UnR X (unaryOp .USub) (rU λi=>.int (-i)):=unI λ_ _ _ _ _ q=>neg_int q
end
noncomputable def scal:V->V->Bool
 | .non,.non=>true|.non,.int _=>true|.int _,.non=>true|.non,.bl _=>true|.bl _,.non=>true|.non,.str _=>true|.str _,.non=>true
 | .int _,.int _=>true|.bl _,.bl _=>true|.str _,.str _=>true|.byt _,.byt _=>true
 | .int _,.str _=>true|.str _,.int _=>true|.bl _,.str _=>true|.str _,.bl _=>true
 | _,_=>false
noncomputable def rEq:R2:=λx y H Q=>scal x y=true/\Q (.bl (decide (x=y))) H
noncomputable def rNe:R2:=λx y H Q=>scal x y=true/\Q (.bl (!decide (x=y))) H
theorem zOi{i j:Int}:decide (V.int i=V.int j)=(i == j):=by rw[vn];simp
theorem zT1 :decide (V.bl i=V.bl j)=(i == j):=by rw[vn];simp
theorem zOh :decide (V.str i=V.str j)=(i == j):=by rw[vn];simp
theorem zOj{i j:Array UInt8}:decide (V.byt i=V.byt j)=(i.toList == j.toList):=by rw[vn];cases i;cases j;simp
section
variable {X:Cx}{a b c:Expr}{ta tb tc:TE}{pos:Pos}
theorem zAm{Q:VK}(I:Inv X pins σ H s)(q:Q (.bl k) H)(e:k=k'):EP X pins σ Q (.bool k') s:=by subst e;exact⟨.bl k,H,I,rfl,q⟩
theorem zVa:OpR X (compareOp .Eq) rEq:=by
 intro pins s σ H x y v u Q I rx ry h;obtain⟨hs,q⟩:=h;cases x with
 | non=>
  cases rx;cases y with
  | non=>cases ry;exact PySem.EqNone.eq_none_none (zAm I q (by simp))
  | bl j=>cases ry;exact PySem.EqNone.eq_none_bool (zAm I q (by simp))
  | int j=>obtain⟨t',rfl⟩:=ry;exact PySem.EqNone.eq_none_int (zAm I q (by simp))
  | str j=>obtain⟨t',rfl⟩:=ry;exact PySem.EqNone.eq_none_str (zAm I q (by simp))
  | _=>exact absurd (show false=true from hs) xV
 | bl i=>
  cases rx;cases y with
  | non=>cases ry;exact PySem.EqNone.eq_bool_none (zAm I q (by simp))
  | bl j=>cases ry;exact eq_bool (zAm I q zT1)
  | str j=>obtain⟨t',rfl⟩:=ry;exact PySem.EqMixed.eq_bool_str (zAm I q (by simp))
  | _=>exact absurd (show false=true from hs) xV
 | int i=>
  obtain⟨t,rfl⟩:=rx;cases y with
  | non=>cases ry;exact PySem.EqNone.eq_int_none (zAm I q (by simp))
  | int j=>obtain⟨t',rfl⟩:=ry;exact eq_int (zAm I q zOi)
  | str j=>obtain⟨t',rfl⟩:=ry;exact PySem.EqMixed.eq_int_str (zAm I q (by simp))
  | _=>exact absurd (show false=true from hs) xV
 | str i=>
  obtain⟨t,rfl⟩:=rx;cases y with
  | non=>cases ry;exact PySem.EqNone.eq_str_none (zAm I q (by simp))
  | bl j=>cases ry;exact PySem.EqMixed.eq_str_bool (zAm I q (by simp))
  | int j=>obtain⟨t',rfl⟩:=ry;exact PySem.EqMixed.eq_str_int (zAm I q (by simp))
  | str j=>obtain⟨t',rfl⟩:=ry;exact eq_str (zAm I q zOh)
  | _=>exact absurd (show false=true from hs) xV
 | byt i=>
  obtain⟨t,rfl⟩:=rx;cases y with
  | byt j=>obtain⟨t',rfl⟩:=ry;exact PySem.W.eq_bytes (zAm I q zOj)
  | _=>exact absurd (show false=true from hs) xV
 | _=>cases y <;> exact absurd (show false=true from hs) xV
theorem zV2:OpR X (compareOp .NotEq) rNe:=by
 intro pins s σ H x y v u Q I rx ry h;obtain⟨hs,q⟩:=h;cases x with
 | non=>
  cases rx;cases y with
  | non=>cases ry;exact PySem.EqNone.ne_none_none (zAm I q (by simp))
  | bl j=>cases ry;exact PySem.EqNone.ne_none_bool (zAm I q (by simp))
  | int j=>obtain⟨t',rfl⟩:=ry;exact PySem.EqNone.ne_none_int (zAm I q (by simp))
  | str j=>obtain⟨t',rfl⟩:=ry;exact PySem.EqNone.ne_none_str (zAm I q (by simp))
  | _=>exact absurd (show false=true from hs) xV
 | bl i=>
  cases rx;cases y with
  | non=>cases ry;exact PySem.EqNone.ne_bool_none (zAm I q (by simp))
  | bl j=>cases ry;exact ne_bool (zAm I q (congrArg not zT1))
  | str j=>obtain⟨t',rfl⟩:=ry;exact PySem.EqMixed.ne_bool_str (zAm I q (by simp))
  | _=>exact absurd (show false=true from hs) xV
 | int i=>
  obtain⟨t,rfl⟩:=rx;cases y with
  | non=>cases ry;exact PySem.EqNone.ne_int_none (zAm I q (by simp))
  | int j=>obtain⟨t',rfl⟩:=ry;exact ne_int (zAm I q (congrArg not zOi))
  | str j=>obtain⟨t',rfl⟩:=ry;exact PySem.EqMixed.ne_int_str (zAm I q (by simp))
  | _=>exact absurd (show false=true from hs) xV
 | str i=>
  obtain⟨t,rfl⟩:=rx;cases y with
  | non=>cases ry;exact PySem.EqNone.ne_str_none (zAm I q (by simp))
  | bl j=>cases ry;exact PySem.EqMixed.ne_str_bool (zAm I q (by simp))
  | int j=>obtain⟨t',rfl⟩:=ry;exact PySem.EqMixed.ne_str_int (zAm I q (by simp))
  | str j=>obtain⟨t',rfl⟩:=ry;exact ne_str (zAm I q (congrArg not zOh))
  | _=>exact absurd (show false=true from hs) xV
 | byt i=>
  obtain⟨t,rfl⟩:=rx;cases y with
  | byt j=>obtain⟨t',rfl⟩:=ry;exact PySem.W.ne_bytes (zAm I q (congrArg not zOj))
  | _=>exact absurd (show false=true from hs) xV
 | _=>cases y <;> exact absurd (show false=true from hs) xV
theorem yBn:OpR X (compareOp .Lt) (rI0 λi j=>.bl (decide (i<j))):=opB0 λ_ _ _ _ _ _ _ q=>lt_int q
theorem yBo:OpR X (compareOp .LtE) (rI0 λi j=>.bl (decide (i<=j))):=opB0 λ_ _ _ _ _ _ _ q=>le_int q
theorem yBp:OpR X (compareOp .Gt) (rI0 λi j=>.bl (decide (j<i))):=opB0 λ_ _ _ _ _ _ _ q=>gt_int q
theorem yBq:OpR X (compareOp .GtE) (rI0 λi j=>.bl (decide (j<=i))):=opB0 λ_ _ _ _ _ _ _ q=>ge_int q
theorem zN4:OpR X (compareOp .Lt) (λx y H Q=>∃i j,x=.str i/\y=.str j/\Q (.bl (decide (i.cps.toList<j.cps.toList))) H):=by intro pins s σ H x y v u Q I rx ry h;obtain⟨i,j,rfl,rfl,q⟩:=h;obtain⟨t,rfl⟩:=rx;obtain⟨t',rfl⟩:=ry;exact lt_str (zAm I q rfl)
theorem zN6:OpR X (compareOp .In) (λx y H Q=>∃i j,x=.str i/\y=.str j/\Q (.bl (!(Builtin.Str.occurrences j i 0 j.length 1).isEmpty)) H):=by intro pins s σ H x y v u Q I rx ry h;obtain⟨i,j,rfl,rfl,q⟩:=h;obtain⟨t,rfl⟩:=rx;obtain⟨t',rfl⟩:=ry;exact in_str (zAm I q rfl)
theorem zYw:OpR X (compareOp .Is) (λx y H Q=>y=.non/\Q (.bl (decide (x=.non))) H):=by
 intro pins s σ H x y v u Q I rx ry h;obtain⟨rfl,q⟩:=h;cases ry;refine is_none_gen (zAm I q ?_);cases x <;> first
  | (cases rx;rfl)
  | (obtain⟨t,rfl⟩:=rx;rfl)
theorem nomark(b:Expr)(h:op≠.In:=by decide)(h2:op≠.NotIn:=by decide):behindInMarks op b=false:=by
 have e1:(op == CmpOp.In)=false:=by cases op <;> first|rfl|exact absurd rfl h
 have e2:(op == CmpOp.NotIn)=false:=by cases op <;> first|rfl|exact absurd rfl h2
 cases b <;> simp[behindInMarks,e1,e2]
theorem zUu(ho:OpR X (compareOp op) r)(ha:PE X a ta)(hb:PE X b tb)(hm:behindInMarks op b=false):PE X (.Compare a [op] [b] pos) (tOp r ta tb):=by intro pins s σ H Q I h;exact wpAny_Compare1 (binT ha hb I h λv u s2 x y H2 I2 rx ry q=>ho pins s2 σ H2 x y v u Q I2 rx ry q) hm
noncomputable def zQ0 (t:TE):TT:=λσ H Q=>t σ H λx H'=>∃k,x=.bl k/\Q k H'
theorem zUc(ho:OpR X (compareOp op) r)(ha:PE X a ta)(hb:PE X b tb)(hm:behindInMarks op b=false):PT X (.Compare a [op] [b] pos) (zQ0 (tOp r ta tb)):=by
 intro pins s σ H Q I h;refine wpAny_isTrue_Compare1 (thn (ha pins s σ H _ I h) λv s1 ⟨x,H1,I1,r1,q1⟩=>thn (hb pins s1 σ H1 _ I1 q1) λu s2 ⟨y,H2,I2,r2,q2⟩=>
  thn (ho pins s2 σ H2 x y v u _ I2 r1 r2 q2) λc s3 ⟨z,H3,I3,r3,k,e,q3⟩=>?_) hm
 subst e;cases r3;exact vK ⟨H3,I3,q3⟩
noncomputable def zGx (r r':R2) (ta tb tc:TE):TE:=λσ H Q=>ta σ H λx H1=>tb σ H1 λy H2=>r x y H2 λz H3=>∃k,z=.bl k /\
 (if k=true then tc σ H3 λw' H4=>r' y w' H4 Q else Q (.bl false) H3)
theorem zQv(ho:OpR X (compareOp op) r)(ho':OpR X (compareOp op') r')(ha:PE X a ta)(hb:PE X b tb)(hc:PE X c tc)
  (hm:lastMarks [op,op'] [b,c]=false:=by with_unfolding_all rfl):PE X (.Compare a [op,op'] [b,c] pos) (zGx r r' ta tb tc):=by
 intro pins s σ H Q I h;refine Compare_chain (thn (ha pins s σ H _ I h) λv s1 ⟨x,H1,I1,r1,q1⟩=>chain_link (thn (hb pins s1 σ H1 _ I1 q1) λu s2 ⟨y,H2,I2,r2,q2⟩=>
  thn (ho pins s2 σ H2 x y v u _ I2 r1 r2 q2) λd s3 ⟨z,H3,I3,r3,k,e,q3⟩=>?_)) hm
 subst e;cases r3;refine vK ?_;cases k with
 | false=>exact ite_ff ⟨.bl false,H3,I3,rfl,q3⟩
 | true=>exact ite_tt (chain_last (thn (hc pins s3 σ H3 _ I3 q3) λw' s4 hz5=>by obtain⟨z',H4,I4,r4,q4⟩:=hz5;exact ho' pins s4 σ H4 y z' u w' Q I4 r2 r4 q4))
theorem zQf(ho:OpR X (compareOp op) r)(ho':OpR X (compareOp op') r')(ha:PE X a ta)(hb:PE X b tb)(hc:PE X c tc)
  (hm:lastMarks [op,op'] [b,c]=false:=by with_unfolding_all rfl):PT X (.Compare a [op,op'] [b,c] pos) (zQ0 (zGx r r' ta tb tc)):=by
 intro pins s σ H Q I h;refine isTrue_chain (thn (ha pins s σ H _ I h) λv s1 ⟨x,H1,I1,r1,q1⟩=>test_link (thn (hb pins s1 σ H1 _ I1 q1) λu s2 ⟨y,H2,I2,r2,q2⟩=>
  thn (ho pins s2 σ H2 x y v u _ I2 r1 r2 q2) λd s3 ⟨z,H3,I3,r3,k,e,q3⟩=>?_)) hm
 subst e;cases r3;refine vK ?_;cases k with
 | false=>
  obtain⟨k',e',q'⟩:=q3;cases e';exact ite_ff ⟨H3,I3,q'⟩
 | true=>
  refine ite_tt (test_last (thn (hc pins s3 σ H3 _ I3 q3) λw' s4 ⟨z',H4,I4,r4,q4⟩=>thn (ho' pins s4 σ H4 y z' u w' _ I4 r2 r4 q4) λd' s5 hq1=>?_));obtain⟨z2,H5,I5,r5,k2,e2,q5⟩:=hq1;subst e2;cases r5;exact vK ⟨H5,I5,q5⟩
def TruV(K:PySem.W.Frag)(x:V)(H:Hp)(k:Bool):Prop:=
 match x with
 | .non=>k=false
 | .bl b=>k=b
 | .int i=>k=(i != 0)
 | .str y=>y.length<=sizeLine/\k=((y.length:Int) != 0)
 | .byt y=>y.size<=sizeLine/\k=((y.size:Int) != 0)
 | .ref p=>(∃xs,SqL K H p xs/\k=!xs.isEmpty)\/(∃xs,SqT K H p xs/\k=!xs.isEmpty)\/∃kvs,H p=some (.dK kvs)/\k=!kvs.isEmpty
 | _=>False
theorem zLc{κ:Type}{kvs:List (κ × V)}{vs:List (κ × Value)}(r:KV kvs vs):(!vs.isEmpty)=!kvs.isEmpty:=by cases r <;> rfl
theorem zFm{xs:List V}{its:List Value}(r:Vals xs its):(!its.toArray.isEmpty)=!xs.isEmpty:=by cases r <;> simp
theorem line63:(sizeLine:Nat)<2 ^ 63:=by rw[sizeLine_eq];decide
theorem zXd:TruR X (λx H Q=>∃k,TruV X.K x H k/\Q k H):=by
 intro pins s σ H x v Q I rx h;obtain⟨k,e,q⟩:=h;have hl:=line63;have hs:sizeLine=16777216:=sizeLine_eq;cases x with
 | non=>
  cases rx;have e':k=false:=e;subst e';exact truthy_none ⟨H,I,q⟩
 | bl b=>
  cases rx;have e':k=b:=e;subst e';exact vK ⟨H,I,q⟩
 | int i=>
  obtain⟨t,rfl⟩:=rx;have e':k=(i != 0):=e;subst e';exact PySem.P.truthy_int ⟨H,I,q⟩
 | str y=>
  obtain⟨t,rfl⟩:=rx;obtain⟨hy,e'⟩:y.length<=sizeLine/\k=((y.length:Int) != 0):=e;subst e';exact PySem.P.truthy_str (by nofun) ⟨H,I.tok _,q⟩
 | byt y=>
  obtain⟨t,rfl⟩:=rx;obtain⟨hy,e'⟩:y.size<=sizeLine/\k=((y.size:Int) != 0):=e;subst e';exact PySem.W.truthy_bytes (by nofun) ⟨H,I.tok _,q⟩
 | ref p=>
  cases rx;have e':(∃xs,SqL X.K H p xs/\k=!xs.isEmpty)\/(∃xs,SqT X.K H p xs/\k=!xs.isEmpty)\/∃kvs,H p=some (.dK kvs)/\k=!kvs.isEmpty:=e
  rcases e' with⟨xs,hx,e'⟩|⟨xs,hx,e'⟩|⟨kvs,hx,e'⟩
  ·subst e';obtain⟨its,r,pl,hz⟩:=I.list hx;have hlen:=r.length;exact wpAny_truthy_list pl.isList (by simp only[xu];lia) ⟨H,I.tok _,by rw[zFm r];exact q⟩
  ·subst e';obtain⟨its,r,pl,hz⟩:=I.tuple hx;have hlen:=r.length;exact truthy_tuple pl (by simp only[xu];lia) ⟨H,I.tok _,by rw[zFm r];exact q⟩
  ·subst e';obtain⟨hz,hS,vs,r,m⟩:kvs.length<=sizeLine/\(p == sysModules)=false/\∃vs,KV kvs vs/\s.heap.DictOf (zBe X.prog X.w) p vs:=I.hok p _ hx
   have hlen:kvs.length=vs.length:=Paired.length r;exact wpAny_truthy_dict hS m (by nofun) ⟨H,I.tok _,by rw[zLc r];exact q⟩
 | _=>exact(show False from e).elim
theorem zQd(ha:PE X a ta)(he:∀whole,isTrue a X.env whole=(do let v <- whole;standAt a.pos;holding [v] (truthy v))):
  PT X a (λσ H Q=>ta σ H λx H'=>∃k,TruV X.K x H' k/\Q k H'):=by
 intro pins s σ H Q I h;exact isTrue_plain (thn (ha pins s σ H _ I h) λv s1 hz6=>by obtain⟨x,H1,I1,r1,q1⟩:=hz6;exact zXd pins s1 σ H1 x v Q I1 r1 q1) (he _)
theorem zL3:OpR X (binaryOp .Add) (λx y H Q=>∃i j,x=.str i/\y=.str j/\i.length+j.length<=sizeLine/\Q (.str (i++j)) H):=by intro pins s σ H x y v u Q I rx ry h;obtain⟨i,j,rfl,rfl,hz,q⟩:=h;obtain⟨t,rfl⟩:=rx;obtain⟨t',rfl⟩:=ry;exact add_str (λt' tk=>⟨.str (i++j),H,I.tok _,⟨_,rfl⟩,q⟩) hz
theorem vals1(r:Vals [x] us):∃u,us=[u]/\RelV x u:=by
 cases r with
 | cons r1 r2=>cases r2;exact⟨_,rfl,r1⟩
theorem vals2(r:Vals [x,y] us):∃u w',us=[u,w']/\RelV x u/\RelV y w':=by
 cases r with
 | cons r1 r2=>
  cases r2 with
  | cons r3 r4=>cases r4;exact⟨_,_,rfl,r1,r3⟩
theorem zS2:zB9 X (.builtin "abs") (λxs H Q=>∃i,xs=[.int i]/\Q (.int (if i<0 then -i else i)) H):=by intro pins s σ H xs us Q I r h;obtain⟨i,rfl,q⟩:=h;obtain⟨u,rfl,t,rfl⟩:=vals1 r;exact call_abs_int λu tk=>⟨.int (if i<0 then -i else i),H,I.tok _,⟨_,rfl⟩,q⟩
theorem zP4(hc:X.calm=true):zB9 X (.builtin "max") (λxs H Q=>∃i j,xs=[.int i,.int j]/\Q (.int (if j > i then j else i)) H):=by
 intro pins s σ H xs us Q I r h;obtain⟨i,j,rfl,q⟩:=h;obtain⟨u,w',rfl,⟨t,rfl⟩,⟨t',rfl⟩⟩:=vals2 r;refine max_two_ints (I.ok.hd hc) λh' tk k=>⟨_,H,I.kept k,?_,q⟩
 by_cases hj:j > i
 ·rw[xc hj,xc hj];exact⟨_,rfl⟩
 ·rw[xf hj,xf hj];exact⟨_,rfl⟩
theorem zP3(hc:X.calm=true):zB9 X (.builtin "min") (λxs H Q=>∃i j,xs=[.int i,.int j]/\Q (.int (if j<i then j else i)) H):=by
 intro pins s σ H xs us Q I r h;obtain⟨i,j,rfl,q⟩:=h;obtain⟨u,w',rfl,⟨t,rfl⟩,⟨t',rfl⟩⟩:=vals2 r;refine min_two_ints (I.ok.hd hc) λh' tk k=>⟨_,H,I.kept k,?_,q⟩
 by_cases hj:j<i
 ·rw[xc hj,xc hj];exact⟨_,rfl⟩
 ·rw[xf hj,xf hj];exact⟨_,rfl⟩
theorem zHo:zB9 X (.type "int") (λxs H Q=>(∃i,xs=[.int i]/\Q (.int i) H)\/∃k,xs=[.bl k]/\Q (.int (if k then 1 else 0)) H):=by
 intro pins s σ H xs us Q I r h;rcases h with⟨i,rfl,q⟩|⟨k,rfl,q⟩
 ·obtain⟨u,rfl,t,rfl⟩:=vals1 r;exact call_int_int ⟨.int i,H,I,⟨_,rfl⟩,q⟩
 ·obtain⟨u,rfl,r1⟩:=vals1 r;cases r1;exact call_int_bool ⟨.int (if k then 1 else 0),H,I.tok _,⟨_,rfl⟩,q⟩
theorem zHl:zB9 X (.type "str") (λxs H Q=>∃i,xs=[.int i]/\i.natAbs.log2<1920/\Q (.str (toString i)) H):=by intro pins s σ H xs us Q I r h;obtain⟨i,rfl,hz,q⟩:=h;obtain⟨u,rfl,t,rfl⟩:=vals1 r;exact PySem.P.str_of_int hz ⟨.str _,H,I.tok _,⟨_,rfl⟩,q⟩
end
structure ObjM (h:Heap) (x dx C:Addr) (mA:Str->Option Value):Prop where
 obj:h.get? x=some (PySem.W.instObj C dx)
 ns:h.Ns1 dx mA
 ne:dx≠x
theorem zNh{h:Heap}{mA:Str->Option Value}(n:h.Ns1 dx mA):∃od,h.get? dx=some od/\∀name,PySem.W.lookIn name od=some (mA name):=by
 obtain⟨o,es,ep,ho,hd,hk,_,hm⟩:=n;refine⟨o,ho,λname=>?_⟩;have e:=hm name;unfold nsFind findBy at e;rw[<- Array.find?_toList]at e;unfold PySem.W.lookIn;rw[hd];dsimp only;split
 ·rename_i y q;rw[q]at e;exact congrArg some e
 ·rename_i q;rw[q]at e;have a:es.toList.any (·.refKey)=false:=by
   rw[List.any_eq_false];intro y hy;obtain⟨z,t,hkey⟩:=hk y (Array.mem_toList_iff.mp hy);simp[DictEntry.refKey,hkey]
  have a':¬ es.toList.any (·.refKey)=true:=by rw[a];exact xV
  rw[xf a'];exact congrArg some e
theorem ObjM.look{mA:Str->Option Value}(I:ObjM h x dx C mA):∃od,PySem.W.InstAt h x (PySem.W.instObj C dx) C (some od)/\∀name,PySem.W.lookIn name od=some (mA name):=
 let ⟨od,ho,hl⟩:=zNh I.ns
 ⟨od,⟨I.obj,rfl,rfl,ho⟩,hl⟩
theorem RelO.some_of(r:RelO (some v) o):∃u,o=some u/\RelV v u:=by
 cases o with
 | none=>exact(show False from r).elim
 | some u=>exact⟨u,rfl,r⟩
section
variable {P:Program}{w:World}{H H':Hp}{h h':Heap}{a C dx:Addr}{fs fs':List (Str × V)}
theorem zVt(hok:HOk P w H h)(e:H a=some (.ins C dx fs)):∃mA,ObjM h a dx C mA/\(∀f,RelO (fs.lookup f) (mA f))/\PySem.Within mA (fs.map (·.1))/\fs.length<=1000/\H dx=some (.own a):=by obtain⟨d,z,ne,ob,mA,n,r,q⟩:=(show ObjOk P w H h a (.ins C dx fs)from hok a _ e);exact⟨mA,⟨ob,n,ne⟩,r,q,z,d⟩
end
structure Cls (K:PySem.W.Frag) (C:Addr):Prop where
 pg:PySem.W.plainGet K C Str.empty=true
 hd:PySem.W.hasDictIn K C=true
 po:PySem.W.plainOver K C=true
 sa:PySem.W.findIn K (.ref C) "__setattr__"=some (some (.builtin "object.__setattr__"))
theorem Cls.get{K:PySem.W.Frag}{C:Addr}(c:Cls K C)(f:Str):PySem.W.plainGet K C f=true:=c.pg
def NoAttr(K:PySem.W.Frag)(C:Addr)(f:Str):Prop:=PySem.W.findIn K (.ref C) f=some none
theorem NoAttr.taker{K:PySem.W.Frag}{C:Addr}{f:Str}(n:NoAttr K C f):PySem.W.takerIn K C f=some none:=by unfold PySem.W.takerIn;rw[show PySem.W.findIn K (.ref C) f=some none from n];rfl
section
variable {X:Cx}{pins:List (Addr × Obj)}{σ:St}{H:Hp}{s:Shared}{A:Around}{E:Value->Shared->Prop}{Q:Value->Shared->Prop}{c:Value}{b:Bool}
inductive TyOf (K:PySem.W.Frag) (H:Hp):V->Value->Prop where
 | non:TyOf K H .non (.type "NoneType")
 | bl (x:Bool):TyOf K H (.bl x) (.type "bool")
 | int (i:Int):TyOf K H (.int i) (.type "int")
 | str (x:Str):TyOf K H (.str x) (.type "str")
 | flt (x:UInt64):TyOf K H (.flt x) (.type "float")
 | lst {a:Addr}{xs:List V}(e:H a=some (.lst xs)):TyOf K H (.ref a) (.type "list")
 | frz {a:Addr}{o:Obj}{xs:List V}(e:H a=some (.frz o (.lst xs))):TyOf K H (.ref a) (.type "list")
 | tup {a:Addr}{xs:List V}(e:H a=some (.tup xs)):TyOf K H (.ref a) (.type "tuple")
 | dK {a:Addr}{kvs:List (Key × V)}(e:H a=some (.dK kvs)):TyOf K H (.ref a) (.type "dict")
 | dT {a:Addr}{kvs:List (List Key × V)}(e:H a=some (.dT kvs)):TyOf K H (.ref a) (.type "dict")
 | ins {a C dx:Addr}{fs:List (Str × V)}(e:H a=some (.ins C dx fs)) (cl:Cls K C) (ha:PySem.W.findIn K (.ref C) "__class__"=some (some (.builtin "object.__class__")))
   (hn:PySem.W.specialIn K (.builtin "object.__class__") "__get__"=some (some (.builtin "getset_descriptor.__get__"))) (htk:PySem.W.takesIn K (.builtin "object.__class__")=some true)
   (hm:PySem.W.mroIn K C (.type "object")=some true):TyOf K H (.ref a) (.ref C)
theorem zNw(I:Inv X pins σ H s)(rx:RelV x u)(ty:TyOf X.K H x t)(e:PySem.W.kitOne X.K t c=some b)(h:∀tk,Q (.bool b) { s with toks:=tk }):
  wpAny (model X.prog X.w) A (call (.builtin "isinstance") [u,c]) Q E s:=by
 cases ty with
 | non=>cases(show u=Value.none from rx);exact vy PySem.W.kitx_none I.kIn True.intro e (λz=>nomatch z) h
 | bl y=>cases(show u=Value.bool y from rx);exact vy PySem.W.kitx_bool I.kIn True.intro e (λz=>nomatch z) h
 | int i=>obtain⟨t,q⟩:=(show ∃t,u=Value.int i t from rx);cases q;exact vy PySem.W.kitx_int I.kIn True.intro e (λz=>nomatch z) h
 | str y=>obtain⟨t,q⟩:=(show ∃t,u=Value.str y t from rx);cases q;exact vy PySem.W.kitx_str I.kIn True.intro e (λz=>nomatch z) h
 | flt y=>obtain⟨t,q⟩:=(show ∃t,u=Value.float y t from rx);cases q;exact vy PySem.W.kitx_float I.kIn True.intro e (λz=>nomatch z) h
 | @lst a xs ea=>
  cases(show u=Value.ref a from rx);obtain⟨_,_,n,_,h1⟩:=(show ObjOk X.prog X.w H s.heap a (.lst xs)from I.hok a _ ea);exact vy PySem.W.kitx_list I.kIn ⟨_,h1,rfl⟩ e (λz=>nomatch z) h
 | @frz a ob xs ea=>
  cases(show u=Value.ref a from rx);obtain⟨_,_,_,n,_,h1⟩:=(show ObjOk X.prog X.w H s.heap a (.frz ob (.lst xs))from I.hok a _ ea);exact vy PySem.W.kitx_list I.kIn ⟨_,h1,rfl⟩ e (λz=>nomatch z) h
 | @tup a xs ea=>
  cases(show u=Value.ref a from rx);obtain⟨_,_,_,p⟩:=(show ObjOk X.prog X.w H s.heap a (.tup xs)from I.hok a _ ea);obtain⟨o,h1,h2,_⟩:=p;exact vy PySem.W.kitx_tuple I.kIn ⟨o,h1,h2⟩ e (λz=>nomatch z) h
 | @dK a kvs ea=>
  cases(show u=Value.ref a from rx);obtain⟨_,_,vs,_,p⟩:=(show ObjOk X.prog X.w H s.heap a (.dK kvs)from I.hok a _ ea);obtain⟨o,es,ep,h1,h2,_⟩:=p;exact vy PySem.W.kitx_dict I.kIn ⟨o,h1,h2.1⟩ e (λz=>nomatch z) h
 | @dT a kvs ea=>
  cases(show u=Value.ref a from rx);obtain⟨_,_,xs,_,o,es,ep,h1,h2,_⟩:=(show ObjOk X.prog X.w H s.heap a (.dT kvs)from I.hok a _ ea);exact vy PySem.W.kitx_dict I.kIn ⟨o,h1,h2.1⟩ e (λz=>nomatch z) h
 | @ins a C dx fs ea cl ha hn htk hm=>
  cases(show u=Value.ref a from rx);obtain⟨mA,O,_⟩:=zVt I.hok ea;obtain⟨od,J,_⟩:=O.look;exact vy (PySem.W.kitx_own (cl.get _) cl.hd ha hn htk hm) I.kIn J e (λz=>nomatch z) h
end
structure Room (k:Nat) (A:Around):Prop where
 hd:A.handled=none
 dp:A.depth+3*k+5<recursionLimit
 un:A.units+16*k+200<cLine
theorem Room.mono{j k:Nat}(r:Room k A)(h:j<=k):Room j A:=⟨r.hd,by have:=r.dp;lia,by have:=r.un;lia⟩
theorem Room.deeper{k:Nat}{A:Around}(r:Room (k+1) A)(env:Env):Room k (A.deeper env):=
 ⟨r.hd,by have:=r.dp;show A.depth+1+3*k+5<_;lia,by have:=r.un;show A.units+3+16*k+200<_;lia⟩
theorem zL9{A:Around}:(A.under (.builtin "type.__call__" ⟨.ref C::us,kw⟩)).depth=A.depth+1:=by first|rfl|simp[Around.under,Code.weight,Code.isCreation,Code.isGuard,Code.isCaller,Code.frames,Code.isFrame,guardIds]
theorem zL8{A:Around}:(A.under (.builtin "type.__call__" ⟨.ref C::us,kw⟩)).units=A.units+1:=by first|rfl|simp[Around.under,Code.cUnits,Code.frames,Code.isFrame]
theorem Room.make{k:Nat}{A:Around}(r:Room (k+1) A)(C:Addr)(us:List Value)(kw:List (Str × Value)):Room k (A.under (.builtin "type.__call__" ⟨.ref C::us,kw⟩)):=
 ⟨r.hd,by have:=r.dp;rw[zL9];lia,by have:=r.un;rw[zL8];lia⟩
theorem Room.depth{A:Around}(r:Room k A):A.depth<recursionLimit:=by have:=r.dp;lia
theorem Room.units{A:Around}(r:Room k A):A.units+64<cLine:=by have:=r.un;lia
theorem Room.units0{A:Around}(r:Room k A):A.units<cLine:=by have:=r.un;lia
noncomputable def tNil:TA:=λ_ H Q=>Q [] H
noncomputable def zTr (ta:TE) (tr:TA):TA:=λσ H Q=>ta σ H λx H1=>tr σ H1 λxs H2=>Q (x::xs) H2
section
variable {X:Cx}{e:Expr}{es:List Expr}{te:TE}{t:TA}{pos:Pos}
theorem zYr:PA X [] tNil:=λ_ _ _ _ H Q I h=>um ⟨[],H,I,.nil,h⟩
theorem zUy(ha:PE X e te)(hr:PA X es t)(hs:starEach (e::es) X.env=(false,eval e X.env)::starEach es X.env:=by rfl):PA X (e::es) (zTr te t):=by intro pos pins s σ H Q I h;rw[hs];show wpAny _ _ (spliced ((false,eval e X.env)::backTo pos (starEach es X.env))) _ _ s;refine vL (thn (ha pins s σ H _ I h) λu s1 hq1=>?_);obtain⟨x,H1,I1,r1,q1⟩:=hq1;exact thn (hr pos pins s1 σ H1 _ I1 q1) λus s2 hz7=>by obtain⟨xs,H2,I2,r2,q2⟩:=hz7;exact ⟨x::xs,H2,I2,.cons r1 r2,q2⟩
noncomputable def tTup (t:TA):TE:=λσ H Q=>t σ H λxs H1=>xs.length<=sizeLine/\∀p,H1 p=none->Q (.ref p) (upd H1 p (.tup xs))
noncomputable def tLst (t:TA):TE:=λσ H Q=>t σ H λxs H1=>xs.length<=sizeLine/\∀p,H1 p=none->Q (.ref p) (upd H1 p (.lst xs))
theorem zYd{x1}(h:PA X es t):PE X (.Tuple es x1 pos) (tTup t):=by intro pins s σ H Q I hq;refine wpAny_Tuple_spliced (thn (h pos pins s σ H _ I hq) λus s1 ⟨xs,H1,I1,r,z,q⟩=>⟨by rw[<- r.length];exact z,?_⟩);have hf:H1 s1.heap.objs.size=none:=I1.hok.fresh (xh _);refine⟨.ref s1.heap.objs.size,upd H1 s1.heap.objs.size (.tup xs),I1.laid (t':=s1.toks) (λb u e=>xm _ e) (xh _) ?_,rfl,q _ hf⟩;exact⟨z,us,r,⟨_,xD _ rfl,rfl,_,rfl⟩⟩
theorem zYj(h:PA X es t):PE X (.List es pos) (tLst t):=by intro pins s σ H Q I hq;refine wpAny_List_spliced (thn (h pos pins s σ H _ I hq) λus s1 ⟨xs,H1,I1,r,z,q⟩=>⟨by rw[<- r.length];exact z,?_⟩);have hf:H1 s1.heap.objs.size=none:=I1.hok.fresh (xh _);refine⟨.ref s1.heap.objs.size,upd H1 s1.heap.objs.size (.lst xs),I1.laid (t':=s1.toks) (λb u e=>xm _ e) (xh _) ?_,rfl,q _ hf⟩;exact⟨z,us,0,r,xD _ rfl⟩
end
abbrev Sp:=List V->Hp->VK->XK->Prop
abbrev CXT:=List Env->Hp->Shared->XK->Value->Shared->Prop
structure Env0 (P:Program) (w:World) (K:PySem.W.Frag) (mg:Str->Option Value) (base:Heap) (A:Around) (outer:List Env) (s:Shared) (H:Hp):Prop where
 frames:A.frames=some outer
 mod:Mod K mg base
 bs:∀b o,base.get? b=some o->s.heap.get? b=some o/\H b=none
 bsz:base.objs.size<=s.heap.objs.size
 funs:s.heap.FunFrames base outer
 frf:∀b∈frs outer,H b=none
 hok:HOk P w H s.heap
 bare:AllBare s.gens
 gds:A.guards=some []
def CE(outer:List Env)(P:Program)(w:World)(H:Hp)(s:Shared)(Q:VK)(u:Value)(s':Shared):Prop:=
 ∃v H',s'.os=s.os/\AllBare s'.gens/\Un (frs outer) [] H H' s.heap s'.heap/\HOk P w H' s'.heap/\RelV v u/\Q v H'
def CR(CX:CXT)(outer:List Env)(P:Program)(w:World)(H:Hp)(s:Shared)(Q:VK)(E:XK)(r:Result)(s':Shared):Prop:=
 match r with
 | .ok (.ret u)=>CE outer P w H s Q u s'
 | .ok _=>False
 | .error e=>CX outer H s E e s'
structure FnOk (P:Program) (w:World) (K:PySem.W.Frag) (mg:Str->Option Value) (base:Heap) (CX:CXT) (k:Nat) (f:Addr) (fd:FuncData) (ps:List Str) (sp:Sp):Prop where
 len:∀vs H Q E,sp vs H Q E->vs.length=ps.length
 run:∀(A:Around) (outer:List Env) (s:Shared) (H:Hp) (args:Args) (us:List Value) (vs:List V) (Q:VK) (E:XK),Room k A->Env0 P w K mg base A outer s H->BindsTo s fd args (ps.zip us)->Vals vs us->sp vs H Q E->
  codeAny (model P w) A (.call (.ref f) args) (CR CX outer P w H s Q E) s
theorem Env0.make{P:Program}{w:World}{K:PySem.W.Frag}{mg:Str->Option Value}{base:Heap}{A:Around}{outer:List Env}{s:Shared}{H:Hp}(e:Env0 P w K mg base A outer s H)(C:Addr)(us:List Value)(kw:List (Str × Value)):
  Env0 P w K mg base (A.under (.builtin "type.__call__" ⟨.ref C::us,kw⟩)) outer s H:=⟨by first|exact e.frames|(simpa[Around.under,Code.envs,Code.isFrame,pushEnvs]using e.frames),e.mod,e.bs,e.bsz,e.funs,e.frf,e.hok,e.bare,by first|exact e.gds|(simp[Around.under,Code.guards,Code.isGuard,guardIds,pushGuards,e.gds])⟩
section
variable {X:Cx}{pins:List (Addr × Obj)}{σ:St}{H:Hp}{s s':Shared}
theorem Inv.env0(I:Inv X pins σ H s):Env0 X.prog X.w X.K X.mg X.base X.A X.stack s H:=
 ⟨I.ok.frames,I.ok.mod,I.bs,xq I.ok.bsz I.sz,I.stack,I.stkFree,I.hok,I.bare,I.ok.gds⟩
theorem Inv.after(I:Inv X pins σ H s)(h:CE X.stack X.prog X.w H s Q u s'):EP X pins σ Q u s':=by obtain⟨v,H',os,bare,un,hok,r,q⟩:=h;obtain⟨hh,g,d,t,os'⟩:=s';obtain rfl:os'=s.os:=os;exact⟨v,H',I.call (h':=hh) (g':=g) (d':=d) (t':=t) (ch:=[]) un hok bare (λb z=>absurd z (by simp)),r,q⟩
end
noncomputable def zQ1 (sp:Sp) (dvs:List V) (E:XK) (t:TA):TE:=λσ H Q=>t σ H λvs H1=>sp (vs++dvs) H1 Q E
def Binds(K:PySem.W.Frag)(fd:FuncData)(ps:List Str)(ds:List Value):Prop:=
 ∀(s:Shared) (us:List Value),K.In s.heap->(us++ds).length=ps.length->BindsTo s fd ⟨us,[]⟩ (ps.zip (us++ds))
theorem Binds.all{K:PySem.W.Frag}{fd:FuncData}{ps:List Str}(h:∀us:List Value,us.length=ps.length->bindArgs fd ⟨us,[]⟩=pure (ps.zip us)):Binds K fd ps []:=λs us _ hl=>by
 rw[xY]at hl ⊢;exact .of_eq (h us hl)
def Passes(CX:CXT)(X:Cx)(E:XK):Prop:=∀(pins:List (Addr × Obj)) (σ:St) (H:Hp) (s:Shared) (e:Value) (s':Shared),Inv X pins σ H s->CX X.stack H s E e s'->X.xe e s'
section
variable {X:Cx}{CX:CXT}{k:Nat}{f C:Addr}{fd:FuncData}{ps:List Str}{sp:Sp}{dvs:List V}{ds:List Value}{E:XK}{x m:Str}{p pos apos:Pos}{e o:Expr}{es:List Expr}{ta:TE}{t:TA}
theorem zXr{pins:List (Addr × Obj)}{σ:St}{H:Hp}{s:Shared}{Q:VK}{us:List Value}{vs:List V}(F:FnOk X.prog X.w X.K X.mg X.base CX k f fd ps sp)(hr:Room k X.A)(hb:Binds X.K fd ps ds)(hd:Vals dvs ds)(hx:Passes CX X E)
  (I:Inv X pins σ H s) (r:Vals vs us) (h:sp (vs++dvs) H Q E):wpAny (model X.prog X.w) X.A (call (.ref f) us) (EP X pins σ Q) X.xe s:=by
 have r2:Vals (vs++dvs) (us++ds):=r.append hd;have hl:(us++ds).length=ps.length:=by rw[<- r2.length];exact F.len _ _ _ _ h
 refine wpAny_call (codeAny_mono (F.run X.A X.stack s H ⟨us,[]⟩ (us++ds) (vs++dvs) Q E hr I.env0 (hb s us I.kIn hl) r2 h) λr s' hq=>?_);cases r with
 | error e=>exact hx pins σ H s e s' I hq
 | ok fl=>
  cases fl with
  | ret u=>exact I.after hq
  | next=>exact False.elim hq
  | brk=>exact False.elim hq
  | cont=>exact False.elim hq
theorem zUv(F:FnOk X.prog X.w X.K X.mg X.base CX k f fd ps sp)(hr:Room k X.A)(hg:Gl X x)(hm:X.mg x=some (.ref f))(hk:PySem.W.keepIn X.K (.ref f)=true)(hb:Binds X.K fd ps ds)(hd:Vals dvs ds)(hx:Passes CX X E)
  (ha:PA X (e::es) t) (hdb:(x == ("__debug__":Str))=false:=by decide) (he:starEach (e::es) X.env=(false,eval e X.env)::starEach es X.env:=by rfl) (hpl:(backTo pos (starEach es X.env)).any (·.1)=false:=by rfl):
  PE X (.Call (.Name x p) (e::es) [] pos) (zQ1 sp dvs E t):=by
 intro pins s σ H Q I h;refine vZ (zIo I hg hm ?_ hdb);refine PySem.W.callWith_K (h₀:=X.base) I.ok.mod.kin hk (thn (ha pos pins s σ H _ I h) λus s1 ⟨vs,H1,I1,r,q⟩=>⟨I1.kIn,?_⟩) he hpl;exact zXr F hr hb hd hx I1 r q
end
structure zCz (N P:List Str) (sc:Scope):Prop where
 kind:sc.kind=.function
 co:sc.isCoroutine=false
 gen:sc.isGenerator=false
 nd:N.Nodup
 pre:N.take P.length=P
 par:∀x∈P,sc.names.lookup x=some .local\/sc.names.lookup x=some .cell
 nofree:∀y∈sc.names,y.2≠.free
theorem zHz{kindOf:Str->Option NameKind}:∀{binds:List (Str × Value)}{m:Str->Option Value},(∀v,(x,v) ∉ binds)->bindL kindOf binds m x=m x
 | [],_,_=>rfl
 | (n,v)::r,m,h=>by
  unfold bindL;rw[zHz λw hw=>h w (vC _ hw)];split
  ·have:x≠n:=by rintro rfl;exact h v vx
   simp[this]
  ·rfl
theorem zI1{kindOf:Str->Option NameKind}:∀{binds:List (Str × Value)}{m:Str->Option Value},(∀v,(x,v) ∉ binds)->bindC kindOf binds m x=m x
 | [],_,_=>rfl
 | (n,v)::r,m,h=>by
  unfold bindC;rw[zI1 λw hw=>h w (vC _ hw)];split
  ·rfl
  ·have:x≠n:=by rintro rfl;exact h v vx
   simp[this]
theorem zI0{kindOf:Str->Option NameKind}:∀{P:List Str}{vs:List Value}{i:Nat}{m:Str->Option Value},P.Nodup->P[i]?=some x->vs[i]?=some v->kindOf x=some .local->
  bindL kindOf (P.zip vs) m x=some v
 | [],_,_,_,_,h,_,_=>by simp at h
 | _::_,[],_,_,_,_,h,_=>by simp at h
 | p::P,w::vs,0,m,nd,h1,h2,hk=>by
  simp at h1 h2;subst h1;subst h2;show bindL kindOf ((p,w)::P.zip vs) m p=_;unfold bindL;rw[zHz λv hv=>(vR.mp nd).1 (List.of_mem_zip hv).1,xc hk];simp
 | p::P,w::vs,i+1,m,nd,h1,h2,hk=>by
  show bindL kindOf ((p,w)::P.zip vs) m x=_;unfold bindL;exact zI0 (i:=i) (vR.mp nd).2 (by simpa using h1) (by simpa using h2) hk
theorem zI2{kindOf:Str->Option NameKind}:∀{P:List Str}{vs:List Value}{i:Nat}{m:Str->Option Value},P.Nodup->P[i]?=some x->vs[i]?=some v->kindOf x≠some .local->
  bindC kindOf (P.zip vs) m x=some v
 | [],_,_,_,_,h,_,_=>by simp at h
 | _::_,[],_,_,_,_,h,_=>by simp at h
 | p::P,w::vs,0,m,nd,h1,h2,hk=>by
  simp at h1 h2;subst h1;subst h2;show bindC kindOf ((p,w)::P.zip vs) m p=_;unfold bindC;rw[zI1 λv hv=>(vR.mp nd).1 (List.of_mem_zip hv).1,xf hk];simp
 | p::P,w::vs,i+1,m,nd,h1,h2,hk=>by
  show bindC kindOf ((p,w)::P.zip vs) m x=_;unfold bindC;exact zI2 (i:=i) (vR.mp nd).2 (by simpa using h1) (by simpa using h2) hk
noncomputable def start (N:List Str) (vs:List V):St:=vs.map some++List.replicate (N.length-vs.length) none
noncomputable def cxOf (CX:CXT) (P:Program) (w:World) (K:PySem.W.Frag) (mg:Str->Option Value) (base:Heap) (N:List Str) (qual:Str) (scope:Scope) (f:Addr) (cd:Value) (A:Around) (outer:List Env) (s:Shared) (H:Hp) (E:XK):Cx where
 prog:=P
 w:=w
 K:=K
 mg:=mg
 base:=base
 A:=A.deeper (envOfC qual scope s.heap.objs.size f cd)
 N:=N
 s₀:=s
 H₀:=H
 env:=envOfC qual scope s.heap.objs.size f cd
 outer:=outer
 stack:=envOfC qual scope s.heap.objs.size f cd::outer
 ex:=[]
 calm:=true
 fn:=λ_=>true
 pn:=[]
 xe:=λe s'=>wpAny (model P w) (A.deeper (envOfC qual scope s.heap.objs.size f cd)) (leaving (envOfC qual scope s.heap.objs.size f cd) e) (λ_ s''=>CX outer H s E e s'') (λe' s''=>CX outer H s E e' s'') s'
theorem zKh{sc:Scope}(h:sc.names.lookup x=some .cell):∃c,(cellsFrom n sc.names []).lookup x=some c:=by have q:=PySem.W.cellsFrom_some sc.names n [] (.inl h);exact Option.isSome_iff_exists.mp q
theorem zNy{CX:CXT}{P:Program}{w:World}{K:PySem.W.Frag}{mg:Str->Option Value}{base:Heap}{N ps:List Str}{qual:Str}{scope:Scope}{f:Addr}{cd:Value}{A:Around}{outer:List Env}{s s1:Shared}{H:Hp}{E:XK}{us:List Value}{vs:List V}
  (S:zCz N ps scope) (hd:A.handled=none) (e0:Env0 P w K mg base A outer s H) (hl:vs.length=ps.length) (r:Vals vs us)
  (x:InCallC s s.heap.objs.size (bindL (envOfC qual scope s.heap.objs.size f cd).kindOf (ps.zip us) λ_=>none) (cellsFrom (s.heap.objs.size+1) scope.names []) (bindC (envOfC qual scope s.heap.objs.size f cd).kindOf (ps.zip us) λ_=>none) s1):
  Inv (cxOf CX P w K mg base N qual scope f cd A outer s H E) [] (start N vs) H s1:=by
 have hpl:ps.length<=N.length:=by have:=congrArg List.length S.pre;rw[vg]at this;lia
 obtain⟨h1,tk,rfl,hk⟩:=x.done;have noA:∀b:Addr,b ∉ (cxOf CX P w K mg base N qual scope f cd A outer s H E).ex:=λb z=>absurd (show b∈([]:List Addr)from z) (by simp)
 refine⟨⟨e0.mod,S.kind,rfl,rfl,xh _,λy z c h1 h2=>?_,λy hy=>?_,λy c _ h=>?_,λ_=>hd,Around.frames_deeper e0.frames,.inr ⟨rfl,rfl⟩,λb z=>absurd z (noA b),e0.bs,e0.bsz,λb _ _=>noA b,λb z=>absurd z (noA b),e0.funs,e0.frf,e0.gds⟩,
  rfl,e0.bare,Un.kept hk,⟨_,x.toInCall.ns,λi y v h1 h2 h3=>?_⟩,λy c h=>⟨_,x.cell y c h⟩,e0.hok.fresh (xh _),λy c h=>?_,λp hp=>absurd (show p∈([]:List (Addr × Obj))from hp) (by simp),e0.hok.kept hk,?_⟩
 ·exact name_of_addr x.apart (uo h1) (uo h2)
 ·have hy:scope.names.lookup y=some .cell\/scope.names.lookup y=some .free:=hy;rcases hy with hy|hy
  ·exact zKh hy
  ·exact absurd rfl (S.nofree _ (uo hy))
 ·exact vB (x.above y c (uo h))
 ·have hi:i<vs.length:=by
   unfold start at h2;by_cases hi:i<vs.length
   ·exact hi
   ·rw[xM (by simpa using hi)]at h2;rw[List.getElem?_replicate]at h2;split at h2 <;> cases h2
  have ha:vs[i]?=some v:=by
   unfold start at h2;rw[xN (by simpa using hi),xO]at h2;cases e:vs[i]? with
   | none=>rw[e]at h2;cases h2
   | some a=>rw[e]at h2;cases h2;rfl
  obtain⟨u,hu,rv⟩:=r.get ha;have hp:ps[i]?=some y:=by rw[<- S.pre,v3 (by nofun)];exact h1
  have ndP:ps.Nodup:=by rw[<- S.pre];exact S.nd.sublist (List.take_sublist _ _)
  refine⟨u,rv,?_⟩;rcases S.par y (vz hp)with k|k
  ·exact .inl ⟨k,zI0 ndP hp hu k⟩
  ·obtain⟨c,e⟩:=zKh (n:=s.heap.objs.size+1) k;refine .inr ⟨.inl k,c,e,?_⟩;have q:=x.cell y c e;rw[zI2 ndP hp hu (by show scope.names.lookup y≠_;rw[k];decide)]at q;exact q
 ·exact e0.hok.fresh (vB (x.above y c (uo h)))
 ·unfold start;show _=N.length;rw[xk,xp,List.length_replicate];lia
theorem zZo{CX:CXT}{P:Program}{w:World}{K:PySem.W.Frag}{mg:Str->Option Value}{base:Heap}{k:Nat}{f:Addr}{name qual:Str}{params:Arguments}{body:List Stmt}{scope:Scope}{dV kV doc pm cdv ct oc:Value}{an od:Option Addr}
  {osl:Array (Option Value)}{N ps:List Str}{sp:Sp}(lk:K.lookup f=some ⟨oc,od,.func (PySem.W.fnOf name qual params body scope dV kV doc pm an cdv ct),osl⟩) (hcd:PySem.W.codeIn K cdv qual=true) (S:zCz N ps scope)
  (len:∀vs H Q E,sp vs H Q E->vs.length=ps.length)
  (hbody:∀(A:Around) (outer:List Env) (s:Shared) (H:Hp) (vs:List V) (Q:VK) (E:XK),Room k (A.deeper (envOfC qual scope s.heap.objs.size f cdv))->sp vs H Q E->
   ∃t,PSs (cxOf CX P w K mg base N qual scope f cdv A outer s H E) body t/\t { nx:=λ_ H'=>Q .non H',rt:=Q } (start N vs) H):
  FnOk P w K mg base CX (k+1) f (PySem.W.fnOf name qual params body scope dV kV doc pm an cdv ct) ps sp:=by
 refine⟨len,λA outer s H args us vs Q E hr e0 hb r hsp=>?_⟩;have hl:=len _ _ _ _ hsp;have KX:K.In s.heap:=e0.mod.kin.keeps λb o e=>(e0.bs b o e).1
 have lim:s.heap.NoLimit:=e0.mod.nolimit.keeps λb o e=>(e0.bs b o e).1
 have hkind:∀y∈ps.zip us,scope.names.lookup y.1=some .local\/(scope.names.lookup y.1=some .cell/\((cellsFrom (s.heap.objs.size+1) scope.names []).lookup y.1).isSome=true):=fun⟨n,v⟩ hy=>by
  rcases S.par n (List.of_mem_zip hy).1 with q|q
  ·exact .inl q
  ·exact .inr ⟨q,PySem.W.cellsFrom_some _ _ _ (.inl q)⟩
 refine codeAny_call_function hr.depth (KX _ _ lk) rfl S.co S.gen rfl (PySem.W.codeRec_of KX hcd) (hb _ _ _ _ ?_)
 refine wpAny_newFunctionEnv_cells S.kind hkind λenv he s1 x=>?_
 subst he;refine⟨lim.keeps x.toInCall.keep,codeAny_func ?_⟩;obtain⟨t,ht,hq⟩:=hbody A outer s H vs Q E (hr.deeper _) hsp;have I:Inv (cxOf CX P w K mg base N qual scope f cdv A outer s H E) [] (start N vs) H s1:=zNy S hr.hd e0 hl r x;refine vd (ht [] s1 (start N vs) H _ I hq) (λfl s' hs=>?_) λe s' hs=>hs
 have fin:∀{σ':St}{H':Hp}{v:V}{u:Value},Inv (cxOf CX P w K mg base N qual scope f cdv A outer s H E) [] σ' H' s'->RelV v u->Q v H'->CE outer P w H s Q u s':=
  λ{σ' H' v u} J rv q=>⟨v,H',J.os,J.bare,J.base,J.hok,rv,q⟩
 cases fl with
 | ret u=>
  obtain⟨v,σ',H',J,rv,q⟩:=hs;exact fin J rv q
 | next=>
  obtain⟨σ',H',J,q⟩:=hs;exact fin (v:=V.non) (u:=Value.none) J rfl q
 | brk=>
  obtain⟨_,_,_,q⟩:=hs;exact False.elim q
 | cont=>
  obtain⟨_,_,_,q⟩:=hs;exact False.elim q
section
variable {X:Cx}{x:Str}{p pos:Pos}{e:Expr}{es:List Expr}{t:TA}{id T:String}{r:List V->Hp->VK->Prop}
noncomputable def tCB (r:List V->Hp->VK->Prop) (t:TA):TE:=λσ H Q=>t σ H λvs H1=>r vs H1 Q
theorem zQw(hc:zB9 X (.builtin id) r)(hg:Gl X x)(hm:X.mg x=none)(hv:bootBuiltins x=some (.builtin id))(ha:PA X (e::es) t)(hn:x≠"__name__":=by decide)(hdb:(x == ("__debug__":Str))=false:=by decide)
  (he:starEach (e::es) X.env=(false,eval e X.env)::starEach es X.env:=by rfl) (hpl:(backTo pos (starEach es X.env)).any (·.1)=false:=by rfl):PE X (.Call (.Name x p) (e::es) [] pos) (tCB r t):=by
 intro pins s σ H Q I h;refine vZ (zE0 I hg hm hv ?_ hn hdb);exact PyProof.Rows.callWith_builtin1 (thn (ha pos pins s σ H _ I h) λus s1 hz8=>by obtain⟨vs,H1,I1,r1,q1⟩:=hz8;exact hc pins s1 σ H1 vs us Q I1 r1 q1) he hpl
theorem zN2(hc:zB9 X (.type T) r)(hg:Gl X x)(hm:X.mg x=none)(hv:bootBuiltins x=some (.type T))(ha:PA X (e::es) t)(hn:x≠"__name__":=by decide)(hdb:(x == ("__debug__":Str))=false:=by decide)
  (he:starEach (e::es) X.env=(false,eval e X.env)::starEach es X.env:=by rfl) (hpl:(backTo pos (starEach es X.env)).any (·.1)=false:=by rfl):PE X (.Call (.Name x p) (e::es) [] pos) (tCB r t):=by
 intro pins s σ H Q I h;refine vZ (zE0 I hg hm hv ?_ hn hdb);exact uk (thn (ha pos pins s σ H _ I h) λus s1 hz9=>by obtain⟨vs,H1,I1,r1,q1⟩:=hz9;exact hc pins s1 σ H1 vs us Q I1 r1 q1) he hpl
end
section
variable {κ:Type}[DecidableEq κ]
noncomputable def valV (kvs:List (κ × V)) (k:κ):Option V:=(kvs.find? λkv=>decide (kv.1=k)).map (·.2)
noncomputable def putK (kvs:List (κ × V)) (k:κ) (v:V):List (κ × V):=
 if(kvs.any λkv=>decide (kv.1=k))=true then kvs.map (λkv=>if kv.1=k then(kv.1,v)else kv)else kvs++[(k,v)]
theorem zE5{p:κ × V}(e:p.1=k):valV (p::r) k=some p.2:=by simp[valV,uq,e]
theorem zE6{p:κ × V}(e:¬ p.1=k):valV (p::r) k=valV r k:=by simp[valV,uq,e]
theorem zJi(k:κ):∀kvs:List (κ × V),(kvs.any λkv=>decide (kv.1=k))=(valV kvs k).isSome
 | []=>rfl
 | p::r=>by
  rw[List.any_cons];by_cases e:p.1=k
  ·simp only[zE5 e,xj e,Bool.true_or,Option.isSome_some]
  ·rw[zE6 e,xi e,Bool.false_or];exact zJi k r
theorem zEm(kvs:List (κ × V))(k:κ)(v:V):(putK kvs k v).length<=kvs.length+1:=by
 unfold putK;split
 ·rw[xp];lia
 ·rw[xk,xv,vo];lia
theorem RelO.isSome_eq{o:Option V}{u:Option Value}(r:RelO o u):o.isSome=u.isSome:=by
 cases o with
 | none=>cases u with
  | none=>rfl
  | some _=>exact(show False from r).elim
 | some _=>cases u with
  | none=>exact(show False from r).elim
  | some _=>rfl
theorem KV.val(r:KV kvs vs)(k:κ):RelO (valV kvs k) (valueAt vs k):=by
 unfold KV at r;induction r with
 | nil=>exact True.intro
 | @cons p q ps qs h t ih=>
  obtain⟨h1,h2⟩:=h;by_cases e:p.1=k
  ·have e':q.1=k:=h1.symm.trans e;have b:valueAt (q::qs) k=some q.2:=by simp[valueAt,uq,e']
   rw[zE5 e,b];exact h2
  ·have e':¬ q.1=k:=λz=>e (h1.trans z)
   have b:valueAt (q::qs) k=valueAt qs k:=by simp[valueAt,uq,e']
   rw[zE6 e,b];exact ih
theorem KV.any{kvs:List (κ × V)}{vs:List (κ × Value)}(r:KV kvs vs)(k:κ):(kvs.any λkv=>decide (kv.1=k))=vs.any λkv=>decide (kv.1=k):=by
 unfold KV at r;induction r with
 | nil=>rfl
 | cons h t ih=>rw[List.any_cons,List.any_cons,ih,h.1]
theorem KV.repl(r:KV kvs vs)(k:κ)(ry:RelV y u):
  KV (kvs.map λkv=>if kv.1=k then(kv.1,y)else kv) (vs.map λkv=>if kv.1=k then(kv.1,u)else kv):=by
 unfold KV at r ⊢;induction r with
 | nil=>exact .nil
 | @cons p q ps qs h t ih=>
  rw[xt,xt];refine .cons ?_ ih;obtain⟨h1,h2⟩:=h;by_cases e:p.1=k
  ·rw[xc e,xc (h1.symm.trans e)];exact⟨h1,ry⟩
  ·rw[xf e,xf (λz=>e (h1.trans z))];exact⟨h1,h2⟩
theorem KV.put(r:KV kvs vs)(k:κ)(ry:RelV y u):KV (putK kvs k y) (stored vs k u):=by
 unfold putK stored;rw[r.any k];by_cases e:(vs.any λkv=>decide (kv.1=k))=true
 ·rw[xc e,xc e];exact r.repl k ry
 ·rw[xf e,xf e];exact Paired.snoc r ⟨rfl,ry⟩
theorem KV.length{kvs:List (κ × V)}{vs:List (κ × Value)}(r:KV kvs vs):kvs.length=vs.length:=Paired.length r
end
theorem zNq(r:RelV (kV k) u):(zBe P w).is k u=true:=by
 cases k with
 | inl i=>obtain⟨t,e⟩:=(show ∃t,u=Value.int i t from r);subst e;exact zIk P w i t
 | inr x=>obtain⟨t,e⟩:=(show ∃t,u=Value.str x t from r);subst e;exact zIj P w x t
theorem zHc :∀{ks:List Key}{us:List Value},Vals (ks.map kV) us->ItemsAre (zBe P w) ks us
 | [],_,r=>by rw[vp]at r;cases r;exact .nil
 | k::ks,_,r=>by
  rw[xt]at r;cases r with
  | cons h t=>exact .cons (zNq h) (zHc t)
abbrev KT(H:Hp):List (List Key × V)->List (List Key × Addr × Value)->Prop:=Paired λp q=>p.1=q.1/\H q.2.1=some (.tup (p.1.map kV))/\RelV p.2 q.2.2
theorem KT.val(r:KT H kvs xs)(k:List Key):RelO (valV kvs k) ((atKey xs k).map (·.2)):=by
 induction r with
 | nil=>exact True.intro
 | @cons p q ps qs h t ih=>
  obtain⟨h1,_,h2⟩:=h;by_cases e:p.1=k
  ·have e':q.1=k:=h1.symm.trans e;have b:atKey (q::qs) k=some q.2:=by simp[atKey,uq,e']
   rw[zE5 e,b];exact h2
  ·have e':¬ q.1=k:=λz=>e (h1.trans z)
   have b:atKey (q::qs) k=atKey qs k:=by simp[atKey,uq,e']
   rw[zE6 e,b];exact ih
theorem KT.repl(r:KT H kvs xs)(k:List Key)(ry:RelV y u):
  KT H (kvs.map λkv=>if kv.1=k then(kv.1,y)else kv) (xs.map (putAt k u)):=by
 induction r with
 | nil=>exact .nil
 | @cons p q ps qs h t ih=>
  rw[xt,xt];refine .cons ?_ ih;obtain⟨h1,h2,h3⟩:=h;unfold putAt;by_cases e:p.1=k
  ·rw[xc e,xc (h1.symm.trans e)];exact⟨h1,h2,ry⟩
  ·rw[xf e,xf (λz=>e (h1.trans z))];exact⟨h1,h2,h3⟩
theorem KT.put{H:Hp}(r:KT H kvs xs)(k:List Key)(hb:H b=some (.tup (k.map kV)))(ry:RelV y u):
  KT H (putK kvs k y) (storedH xs k b u):=by
 have e:(kvs.any λkv=>decide (kv.1=k))=(atKey xs k).isSome:=by rw[zJi,(r.val k).isSome_eq,Option.isSome_map]
 unfold putK storedH;rw[e];by_cases q:(atKey xs k).isSome=true
 ·rw[xc q,xc q];exact r.repl k ry
 ·rw[xf q,xf q];exact Paired.snoc r ⟨rfl,hb,ry⟩
theorem KT.keeps{H H':Hp}(r:KT H kvs xs)(ht:∀b ys,H b=some (.tup ys)->H' b=some (.tup ys)):KT H' kvs xs:=
 Paired.mapP r λ_ _ z=>⟨z.1,ht _ _ z.2.1,z.2.2⟩
section
variable {P:Program}{w:World}{H:Hp}{h:Heap}{a:Addr}
theorem rd_of(ok:HOk P w H h)(e:Rd H a u):ObjOk P w H h a u:=e.ok ok
theorem zLn{kvs:List (Key × V)}(ok:HOk P w H h)(e:Rd H a (.dK kvs)):kvs.length<=sizeLine/\(a == sysModules)=false/\∃vs,KV kvs vs/\h.DictOf (zBe P w) a vs:=
 show ObjOk P w H h a (.dK kvs)from rd_of ok e
theorem yC8{kvs:List (Key × V)}(ok:HOk P w H h)(e:H a=some (.dK kvs)):kvs.length<=sizeLine/\(a == sysModules)=false/\∃vs,KV kvs vs/\h.DictOf (zBe P w) a vs:=zLn ok (.inl e)
theorem zH9{ks:List Key}(ok:HOk P w H h)(e:H a=some (.tup (ks.map kV))):(tupleKind (zBe P w)).is h ks a:=by obtain⟨_,its,r,o,h1,h2,n,h3⟩:=(show ObjOk P w H h a (.tup (ks.map kV))from ok a _ e);exact⟨o,its.toArray,n,h1,h2,h3,by simpa using zHc r⟩
theorem zLm{kvs:List (List Key × V)}(ok:HOk P w H h)(e:Rd H a (.dT kvs)):kvs.length<=sizeLine/\(a == sysModules)=false /\
  ∃xs,KT H kvs xs/\h.DictOfH (tupleKind (zBe P w)) a xs:=by
 obtain⟨z,y,xs,r,o,es,ep,h1,h2,h3,h4,h5⟩:=(show ObjOk P w H h a (.dT kvs)from rd_of ok e);refine⟨z,y,xs,r,o,es,ep,h1,h2,h3,h4,λx hx=>?_,h5⟩;have all:∀{l:List (List Key × V)}{m:List (List Key × Addr × Value)},KT H l m->∀x∈m,(tupleKind (zBe P w)).is h x.1 x.2.1:=by
  intro l m q;induction q with
  | nil=>intro x hx;exact nomatch hx
  | @cons p q ps qs hq t ih=>
   intro x hx;rcases xr.mp hx with e|hx
   ·subst e;exact zH9 ok (by rw[<- hq.1];exact hq.2.1)
   ·exact ih x hx
 exact all r x hx
theorem yC6{kvs:List (List Key × V)}(ok:HOk P w H h)(e:H a=some (.dT kvs)):kvs.length<=sizeLine/\(a == sysModules)=false /\
  ∃xs,KT H kvs xs/\h.DictOfH (tupleKind (zBe P w)) a xs:=zLm ok (.inl e)
end
def DGet(H:Hp)(a:Addr)(y:V)(r:Option V):Prop:=
 (∃kvs k,Rd H a (.dK kvs)/\y=kV k/\r=valV kvs k)\/∃kvs k b,Rd H a (.dT kvs)/\y=.ref b/\H b=some (.tup (k.map kV))/\r=valV kvs k
def DPut(H:Hp)(a:Addr)(y v:V)(H':Hp):Prop:=
 (∃kvs k,H a=some (.dK kvs)/\y=kV k/\kvs.length<sizeLine/\H'=upd H a (.dK (putK kvs k v))) \/
 ∃kvs k b,H a=some (.dT kvs)/\y=.ref b/\H b=some (.tup (k.map kV))/\kvs.length<sizeLine/\H'=upd H a (.dT (putK kvs k v))
section
variable {X:Cx}{pins:List (Addr × Obj)}{σ:St}{H:Hp}{s:Shared}{a:Addr}{y v:V}{u r:Value}{o:Option V}{A:Around}{E:Value->Shared->Prop}
theorem zOo{Q:Value->Shared->Prop}(hu:A.units+1<cLine)(I:Inv X pins σ H s)(g:DGet H a y (some v))(ry:RelV y u)(h:∀w' s',Inv X pins σ H s'->RelV v w'->Q w' s'):
  wpAny (model X.prog X.w) A (getItem (.ref a) u) Q E s:=by
 rcases g with⟨kvs,k,e,ey,l⟩|⟨kvs,k,b,e,ey,eb,l⟩
 ·subst ey;obtain⟨z,hd,vs,rel,dd⟩:=zLn I.hok e;obtain⟨w',hw,rw'⟩:=RelO.some_of (v:=v) (o:=valueAt vs k) (by rw[l];exact rel.val k);exact wpAny_getItem_of (zNq ry) dd.mapOf hw (h w' _ (I.tok _) rw')
 ·subst ey;cases(show u=Value.ref b from ry);obtain⟨z,hd,xs,rel,dd⟩:=zLm I.hok e;obtain⟨w',hw,rw'⟩:=RelO.some_of (v:=v) (o:=(atKey xs k).map (·.2)) (by rw[l];exact rel.val k);obtain⟨p,hp,hp2⟩:=Option.map_eq_some_iff.mp hw;refine wpAny_getItem_heap (tupleKind_room_in1 hu) (zH9 I.hok eb) dd hp ?_;rw[hp2];exact h w' _ (I.tok _) rw'
theorem d_in{Q:Value->Shared->Prop}(hu:A.units+1<cLine)(I:Inv X pins σ H s)(g:DGet H a y o)(ry:RelV y u)(h:∀s',Inv X pins σ H s'->Q (.bool o.isSome) s'):
  wpAny (model X.prog X.w) A (compareOp .In u (.ref a)) Q E s:=by
 rcases g with⟨kvs,k,e,ey,l⟩|⟨kvs,k,b,e,ey,eb,l⟩
 ·subst ey;obtain⟨z,hd,vs,rel,dd⟩:=zLn I.hok e;refine wpAny_in_of (zNq ry) hd dd.mapOf ?_;rw[<- (rel.val k).isSome_eq,<- l];exact h _ (I.tok _)
 ·subst ey;cases(show u=Value.ref b from ry);obtain⟨z,hd,xs,rel,dd⟩:=zLm I.hok e;refine wpAny_in_heap (tupleKind_room_in1 hu) (zH9 I.hok eb) hd dd ?_;have q:=(rel.val k).isSome_eq;rw[Option.isSome_map]at q;rw[<- q,<- l];exact h _ (I.tok _)
theorem zOn{Q:Value->Shared->Prop}(hu:A.units+1<cLine)(I:Inv X pins σ H s)(g:DGet H a y o)(ry:RelV y u)(h:∀s',Inv X pins σ H s'->Q (.bool (!o.isSome)) s'):
  wpAny (model X.prog X.w) A (compareOp .NotIn u (.ref a)) Q E s:=by
 rcases g with⟨kvs,k,e,ey,l⟩|⟨kvs,k,b,e,ey,eb,l⟩
 ·subst ey;obtain⟨z,hd,vs,rel,dd⟩:=zLn I.hok e;refine wpAny_notIn_of (zNq ry) hd dd.mapOf ?_;rw[<- (rel.val k).isSome_eq,<- l];exact h _ (I.tok _)
 ·subst ey;cases(show u=Value.ref b from ry);obtain⟨z,hd,xs,rel,dd⟩:=zLm I.hok e;refine wpAny_notIn_heap (tupleKind_room_in1 hu) (zH9 I.hok eb) hd dd ?_;have q:=(rel.val k).isSome_eq;rw[Option.isSome_map]at q;rw[<- q,<- l];exact h _ (I.tok _)
theorem zOl{h':Heap}{t':Nat}(I:Inv X pins σ H s)(mu:Mut (H a))(hs:Heap.SameBut a s.heap h')(he:∃q,h'.get? a=some q)(new:ObjOk X.prog X.w (upd H a ob) h' a ob):
  Inv X pins σ (upd H a ob) { s with heap:=h',toks:=t' }:=
 I.write (x:=a) (e:=a) mu (.inl rfl) (λb q hb z=>(hs.2 b hb).trans z) he new
theorem yAa{H':Hp}{h':Heap}{kvs:List (Key × V)}(z:kvs.length<=sizeLine)(hd:(a == sysModules)=false)(rel:KV kvs vs)(dd:h'.DictOf (zBe P w) a vs):
  ObjOk P w H' h' a (.dK kvs):=⟨z,hd,vs,rel,dd⟩
theorem zOm{Q:Unit->Shared->Prop}(hu:A.units+1<cLine)(I:Inv X pins σ H s)(g:DPut H a y v H')(ry:RelV y u)(rv:RelV v r)(h:∀s',Inv X pins σ H' s'->Q () s'):
  wpAny (model X.prog X.w) A (setItem (.ref a) u r) Q E s:=by
 rcases g with⟨kvs,k,e,ey,l,eH⟩|⟨kvs,k,b,e,ey,eb,l,eH⟩
 ·subst ey eH;obtain⟨z,hd,vs,rel,dd⟩:=yC8 I.hok e;have hz:vs.length<=sizeLine:=by rw[<- rel.length];exact z
  have hl:(putK kvs k v).length<=sizeLine:=by have:=zEm kvs k v;lia
  refine wpAny_setItem_pairs (hsz:=hz) (zNq ry) dd λh' dd' hs=>h _ ?_
  have he:∃q,h'.get? a=some q:=let ⟨q,_,_,hq,_⟩:=dd';⟨q,hq⟩
  exact zOl I (by rw[e];exact True.intro) hs he (yAa hl hd (rel.put k rv) dd')
 ·subst ey eH;cases(show u=Value.ref b from ry);obtain⟨z,hd,xs,rel,dd⟩:=yC6 I.hok e;have hz:xs.length<=sizeLine:=by rw[<- Paired.length rel];exact z
  have hl:(putK kvs k v).length<=sizeLine:=by have:=zEm kvs k v;lia
  refine wpAny_setItem_heap (hsz:=hz) (tupleKind_room_in1 hu) (zH9 I.hok eb) dd λh' dd' hs=>h _ ?_
  obtain⟨q,es,ep,hq,h2,h3,h4,_,h5⟩:=dd';refine zOl I (by rw[e];exact True.intro) hs ⟨q,hq⟩ ⟨hl,hd,_,(rel.put k eb rv).keeps λc ys ec=>?_,q,es,ep,hq,h2,h3,h4,h5⟩;rw[zA9 (yBt ec e (λz=>nomatch z))];exact ec
end
section
variable {X:Cx}{pins:List (Addr × Obj)}{σ:St}{H:Hp}{s:Shared}{a:Addr}{kvs:List (Key × V)}{k:Key}{u:Value}{A:Around}{E:Value->Shared->Prop}
theorem yCn{Q:Value->Shared->Prop}(I:Inv X pins σ H s)(e:Rd H a (.dK kvs))(h:∀t s',Inv X pins σ H s'->Q (.int kvs.length t) s'):wpAny (model X.prog X.w) A (call (.builtin "len") [.ref a]) Q E s:=by obtain⟨z,hd,vs,rel,dd⟩:=zLn I.hok e;refine call_len_dict hd dd (by rw[<- rel.length];rw[sizeLine_eq]at z;lia) ?_;rw[<- rel.length];exact h _ _ (I.tok _)
end
theorem zIu{s:Shared}(I:Inv X pins σ H s)(g:DGet H a y o):s.TypeIs (.ref a) "dict":=by
 rcases g with⟨kvs,k,e,_,_⟩|⟨kvs,k,b,e,_,_,_⟩
 ·obtain⟨_,_,vs,_,dd⟩:=zLn I.hok e;exact dd.typeIs
 ·obtain⟨_,_,xs,_,dd⟩:=zLm I.hok e;exact dd.typeIs
end L2
namespace HT
open PySem PyProof.Rows
section
open PySem.SeqAt
open PySem.AutoSeq1 (wpAny_loadPart')
open PySem.MeetsSeq PySem.MeetsSeq2 PySem.MeetsSeq3
end
section
variable {prog:Program}{w:World}{A:Around}{E:Value->Shared->Prop}{s:Shared}
theorem cat_tup{vs ws:List Value}{Q:Value->Shared->Prop}(ht:IsTup s.heap t vs.toArray)(hb:IsTup s.heap b ws.toArray)(hv:vs≠[])
  (h1:ws=[]->Q (.ref t) s) (h2:ws≠[]->Q (.ref s.heap.objs.size) { s with heap:=s.heap.push { cls:=.type "tuple",data:=.seq (vs++ws).toArray } })
  (hsz:vs.length+ws.length<=sizeLine):wpAny (model prog w) A (binaryOp .Add (.ref t) (.ref b)) Q E s:=by
 obtain⟨⟨cls,dd,data,sl⟩,ho,hc,n,hd⟩:=id ht;obtain⟨⟨cls2,dd2,data2,sl2⟩,ho2,hc2,n2,hd2⟩:=id hb;simp only at hc hd hc2 hd2;subst hc hd hc2 hd2;have e:vs.toArray++ws.toArray=(vs++ws).toArray:=by simp
 by_cases hw:ws=[]
 ·exact concat_meets ⟨_,ho,rfl⟩ ⟨_,ho2,rfl⟩ noFill_tuple_add seq_tuple_add PySem.F.slot_tuple_add PySem.F.entry_tuple_add (PySem.F.args_tuple_add_2 _ _)
   (tuple_addW1 t b vs.toArray ws.toArray n n2 dd dd2 sl sl2 (by simpa using hv) (by simp[hw])) ⟨ho,ho2,h1 hw⟩
 ·refine concat_meets ⟨_,ho,rfl⟩ ⟨_,ho2,rfl⟩ noFill_tuple_add seq_tuple_add PySem.F.slot_tuple_add PySem.F.entry_tuple_add (PySem.F.args_tuple_add_2 _ _)
   (tuple_addW2 t b vs.toArray ws.toArray n n2 dd dd2 sl sl2 (by simpa using hv) (by simpa using hw) (by rw[xu,xu];exact hsz)) ⟨ho,ho2,?_⟩
  rw[e];exact h2 hw
noncomputable def sIx (n d:Nat):Option Int->Nat
 | none=>d
 | some v=>if v<0 then(v+(n:Int)).toNat else min v.toNat n
theorem sIx_le(n d:Nat)(hd:d<=n)(o:Option Int):sIx n d o<=n:=by
 cases o with
 | none=>exact hd
 | some v=>
  show(if v<0 then(v+(n:Int)).toNat else min v.toNat n)<=n;by_cases hv:v<0
  ·rw[xc hv];lia
  ·rw[xf hv];exact Nat.min_le_right _ _
theorem zOw(v:Int)(n d:Nat):(if v<0 then max (v+(n:Int)) 0 else min v (n:Int))=((sIx n d (some v):Nat):Int):=by
 show(if v<0 then max (v+(n:Int)) 0 else min v (n:Int))=(((if v<0 then(v+(n:Int)).toNat else min v.toNat n):Nat):Int);by_cases hv:v<0
 ·simp only[xc hv];lia
 ·simp only[xf hv];lia
theorem zM3(lo hi:Option Int)(n:Nat):Builtin.Slice.sliceAdjust lo hi 1 (n:Int)=(((sIx n 0 lo:Nat):Int),((sIx n n hi:Nat):Int)):=by
 have h1:¬ ((1:Int)<0):=by nofun
 unfold Builtin.Slice.sliceAdjust;simp only[h1,xZ];refine Prod.ext ?_ ?_
 ·cases lo with
  | none=>rfl
  | some v=>exact zOw v n 0
 ·cases hi with
  | none=>rfl
  | some v=>exact zOw v n n
theorem zKz(i j:Nat):Builtin.Slice.slicePlaces (i:Int) (j:Int) 1=j-i:=by
 unfold Builtin.Slice.slicePlaces;have h1:(1:Int) > 0:=by nofun
 simp only[h1,xW,Int.ediv_one];split <;> lia
theorem slicePart_{o:Option Int}{Q:Option Int->Shared->Prop}(p:IsPart v o)(h:Q o s):wpAny (model prog w) A (Builtin.Slice.slicePartIndex v) Q E s:=by
 cases p with
 | none=>exact slicePart_none h
 | int i t=>exact slicePart_int h
theorem sliceApplied_gen{lo hi:Option Int}{n:Nat}{Q:Int × Int × Nat->Shared->Prop}(hs:s.heap.IsSliceOf sl vl vu .none)(pl:IsPart vl lo)(pu:IsPart vu hi)
  (h:Q (((sIx n 0 lo:Nat):Int),1,sIx n n hi-sIx n 0 lo) s):wpAny (model prog w) A (Builtin.Slice.sliceApplied (.ref sl) (pure (n:Int))) Q E s:=by
 obtain⟨os,hos,hcs,hds⟩:=id hs;unfold Builtin.Slice.sliceApplied Builtin.Slice.sliceFields;refine xa (xa (xF hos hds (x:=vl) rfl (xa (xF hos hds (x:=vu) rfl (xa (xF hos hds (x:=.none) rfl (xg ?_)))))));refine xa (slicePart_none ?_);show wpAny _ _ (if((1:Int) == 0)=true then _ else _) _ _ s;rw[xf (by decide)];refine xa (slicePart_ pl (xa (slicePart_ pu (xa (xg ?_)))));show wpAny _ _ (match Builtin.Slice.sliceAdjust lo hi 1 (n:Int)with|(lo,hi)=>pure (lo,(1:Int),Builtin.Slice.slicePlaces lo hi 1)) _ _ s;rw[zM3 lo hi n];show wpAny _ _ (pure (((sIx n 0 lo:Nat):Int),(1:Int),Builtin.Slice.slicePlaces ((sIx n 0 lo:Nat):Int) ((sIx n n hi:Nat):Int) 1)) _ _ s;rw[zKz];exact xg h
theorem zQn(xs:Array Value)(i k:Nat):((List.range k).filterMap fun(m:Nat)=>xs[((i:Int)+(m:Int)*1).toNat]?).toArray=((xs.toList.drop i).take k).toArray:=by
 have e:(fun(m:Nat)=>xs[((i:Int)+(m:Int)*1).toNat]?)=λm=>xs[i+m]?:=by
  funext m
  have:((i:Int)+(m:Int)*1).toNat=i+m:=by nofun
  rw[this]
 rw[e];have:=pick_run xs i k;rw[List.filterMap_map]at this;have e2:((λx=>xs[x]?) ∘ λx=>i+x)=λm=>xs[i+m]?:=rfl
 rw[e2]at this;rw[this]
theorem getItem_tuple_cut{lo hi:Option Int}{Q:Value->Shared->Prop}(ht:IsTup s.heap t items)(hs:s.heap.IsSliceOf sl vl vu .none)(pl:IsPart vl lo)(pu:IsPart vu hi)
  (hw:¬ (sIx items.size 0 lo=0/\sIx items.size items.size hi=items.size))
  (h:Q (.ref s.heap.objs.size) { s with heap:=s.heap.push { cls:=.type "tuple",data:=.seq ((items.toList.drop (sIx items.size 0 lo)).take (sIx items.size items.size hi-sIx items.size 0 lo)).toArray } })
  (hsz:items.size<=sizeLine):wpAny (model prog w) A (getItem (.ref t) (.ref sl)) Q E s:=by
 have htake:sizeOk (.seq ((items.toList.drop (sIx items.size 0 lo)).take (sIx items.size items.size hi-sIx items.size 0 lo)).toArray):=by show((items.toList.drop (sIx items.size 0 lo)).take (sIx items.size items.size hi-sIx items.size 0 lo)).toArray.size<=sizeLine;rw[xu,vg,v5,uT];exact xq (Nat.min_le_right _ _) (xq (Nat.sub_le _ _) hsz)
 have hj:sIx items.size items.size hi<=items.size:=sIx_le _ _ (xh _) hi;obtain⟨os,hos,hcs,hds⟩:=id hs;have hTs:s.TypeIs (.ref sl) "slice":=⟨os,hos,hcs⟩;unfold getItem
 try with_reducible refine xS ?_
 first|refine xa (xg ?_)|skip
 refine xa (wpAny_sequenceKey ht.typeIs (by decide) ?_);refine xa (vD (name:=Str.ofString "__getitem__") ht.typeIs vE
  (vA vE ht.typeIs entry_tuple_getitem ?_ (args_tuple_getitem _ _)))
 show wpAny _ _ (Builtin.Tuple.tupleItemsOf (.ref t) >>= _) _ _ s;refine xa (tupleItemsOf_ ht ?_);refine xa (v7 hTs ?_);rw[xc (by decide)];refine xa (sliceApplied_gen hs pl pu ?_);have hno:¬ ((((sIx items.size 0 lo:Nat):Int) == 0 && (1:Int) == 1 && (sIx items.size items.size hi-sIx items.size 0 lo) == items.size)=true):=by intro q;rw[xl,xl]at q;have q1:((sIx items.size 0 lo:Nat):Int)=0:=eq_of_beq q.1.1;have q2:sIx items.size items.size hi-sIx items.size 0 lo=items.size:=eq_of_beq q.2;exact hw ⟨by nofun,by nofun⟩
 show wpAny _ _ (if(((sIx items.size 0 lo:Nat):Int) == 0 && (1:Int) == 1 && (sIx items.size items.size hi-sIx items.size 0 lo) == items.size)=true then _ else _) _ _ s;rw[xf hno,zQn];first
  | exact xa (m:=Builtin.Tuple.tupleExact _) (vq (xg ⟨_,rfl,xg h⟩) htake)
  | exact xa (m:=Builtin.Tuple.tupleExact _) (vq (xa (xg (xg ⟨_,rfl,xg h⟩))) htake)
  | exact xa (xa (m:=Builtin.Tuple.tupleExact _) (vq (xg (xg ⟨_,rfl,xg h⟩)) htake))
  | exact xa (xa (m:=Builtin.Tuple.tupleExact _) (vq (xg ⟨_,rfl,xg h⟩) htake))
end
end HT
namespace L2
open PySem PySem.Spec PyProof.Rows
abbrev TO:=St->Hp->(Option Int->Hp->Prop)->Prop
def PO(X:Cx)(e:Option Expr)(t:TO):Prop:=
 ∀(pins:List (Addr × Obj)) (s:Shared) (σ:St) (H:Hp) (Q:Option Int->Hp->Prop),Inv X pins σ H s->t σ H Q->
  wpAny (model X.prog X.w) X.A (evalPart e X.env) (λu s'=>∃o H',Inv X pins σ H' s'/\IsPart u o/\Q o H') X.xe s
noncomputable def zMd:TO:=λ_ H Q=>Q none H
noncomputable def zXh (t:TE):TO:=λσ H Q=>t σ H λx H1=>∃i,x=.int i/\Q (some i) H1
section
variable {X:Cx}{e:Expr}{te:TE}{lo hi:Option Expr}{tl th:TO}{pos p2:Pos}
theorem zUj:PO X none zMd:=by intro pins s σ H Q I h;rw[evalPart_none];exact xg ⟨none,H,I,.none,h⟩
theorem zUi(h:PE X e te):PO X (some e) (zXh te):=by
 intro pins s σ H Q I hw;rw[evalPart_some];refine thn (h pins s σ H _ I hw) λu s1 hq1=>?_
 obtain⟨x,H1,I1,r1,q1⟩:=hq1;obtain⟨i,rfl,q⟩:=q1;obtain⟨t,rfl⟩:=r1;exact⟨some i,H1,I1,.int i t,q⟩
def SlR(X:Cx)(r:V->Option Int->Option Int->Hp->VK->Prop):Prop:=
 ∀(pins:List (Addr × Obj)) (s:Shared) (σ:St) (H:Hp) (x:V) (v vl vu:Value) (lo hi:Option Int) (sl:Addr) (Q:VK),Inv X pins σ H s->RelV x v->s.heap.IsSliceOf sl vl vu .none->IsPart vl lo->IsPart vu hi->r x lo hi H Q->
  ∃T id,typeLookup (.type T) "__getitem__"=pure (some (.builtin id))/\s.TypeIs v T/\wpAny (model X.prog X.w) X.A (getItem v (.ref sl)) (EP X pins σ Q) X.xe s
noncomputable def tSl (r:V->Option Int->Option Int->Hp->VK->Prop) (te:TE) (tl th:TO):TE:=λσ H Q=>te σ H λx H1=>tl σ H1 λl H2=>th σ H2 λu H3=>r x l u H3 Q
theorem zQq{r:V->Option Int->Option Int->Hp->VK->Prop}(hr:SlR X r)(he:PE X e te)(hl:PO X lo tl)(hu:PO X hi th):PE X (.Subscript e (.Slice lo hi none p2) pos) (tSl r te tl th):=by
 intro pins s σ H Q I h;refine Subscript_ (thn (he pins s σ H _ I h) λv s1 hq1=>?_);obtain⟨x,H1,I1,r1,q1⟩:=hq1;refine wpAny_Slice (thn (hl pins s1 σ H1 _ I1 q1) λvl s2 ⟨l,H2,I2,pl,q2⟩=>thn (hu pins s2 σ H2 _ I2 q2) λvu s3 hq1=>?_);obtain⟨u,H3,I3,pu,q3⟩:=hq1;rw[evalPart_none];refine xg ?_;have I4:Inv X pins σ H3 { s3 with heap:=s3.heap.push { cls:=.type "slice",data:=.fields #[vl,vu,.none] } }:=I3.kept (t':=s3.toks) λb ob q=>xm _ q
 obtain⟨T,id,hT,ht,hg⟩:=hr pins { s3 with heap:=s3.heap.push { cls:=.type "slice",data:=.fields #[vl,vu,.none] } } σ H3 x v vl vu l u s3.heap.objs.size Q I4 r1 (Heap.IsSliceOf.new ..) pl pu q3;show wpAny (model X.prog X.w) X.A (subscriptTail e (.Slice lo hi none p2) v (.ref s3.heap.objs.size)) (EP X pins σ Q) X.xe { s3 with heap:=s3.heap.push { cls:=.type "slice",data:=.fields #[vl,vu,.none] } };exact tail_any (ops:=[.ref s3.heap.objs.size,v]) ht hT hg (by with_unfolding_all rfl)
noncomputable def cutV (xs:List V) (lo hi:Option Int):List V:=(xs.drop (HT.sIx xs.length 0 lo)).take (HT.sIx xs.length xs.length hi-HT.sIx xs.length 0 lo)
theorem zEt(xs:List V)(lo hi:Option Int):(cutV xs lo hi).length<=xs.length:=by unfold cutV;rw[vg,v5];lia
def rSlT(K:PySem.W.Frag):V->Option Int->Option Int->Hp->VK->Prop:=λx lo hi H Q=>∃a xs,x=.ref a/\SqT K H a xs /\
 ¬ (HT.sIx xs.length 0 lo=0/\HT.sIx xs.length xs.length hi=xs.length)/\∀p,H p=none->Q (.ref p) (upd H p (.tup (cutV xs lo hi)))
theorem zSe:SlR X (rSlT X.K):=by
 intro pins s σ H x v vl vu lo hi sl Q I rx hs pl pu h;obtain⟨a,xs,rfl,hx,hw,q⟩:=h;cases rx;obtain⟨its,r,ht,hz⟩:=I.tuple hx;have hlen:its.toArray.size=xs.length:=by rw[xu];exact r.length.symm
 refine⟨"tuple",_,vE.lookup,ht.typeIs,?_⟩;refine HT.getItem_tuple_cut ht hs pl pu (by rw[hlen];exact hw) ?_ (by rw[hlen];exact hz);rw[hlen];refine⟨.ref s.heap.objs.size,_,I.laid (t':=s.toks) (o:=.tup (cutV xs lo hi)) (λb ob q=>xm _ q) (xh _) ?_,rfl,q _ (I.hok.fresh (xh _))⟩;exact⟨xq (zEt xs lo hi) hz,_,(r.drop (HT.sIx xs.length 0 lo)).take (HT.sIx xs.length xs.length hi-HT.sIx xs.length 0 lo),IsTup.new _ _⟩
noncomputable def yB9 (K:PySem.W.Frag):R2:=λx y H Q=>∃a b xs ys,x=.ref a/\y=.ref b/\SqT K H a xs/\SqT K H b ys/\xs≠[]/\xs.length+ys.length<=sizeLine /\
 (ys=[]->Q (.ref a) H)/\(ys≠[]->∀p,H p=none->Q (.ref p) (upd H p (.tup (xs++ys))))
theorem Vals.nil_iff(r:Vals xs us):us=[] <-> xs=[]:=by
 cases r with
 | nil=>simp
 | cons _ _=>simp
theorem zVb:OpR X (binaryOp .Add) (yB9 X.K):=by intro pins s σ H x y v u Q I rx ry h;obtain⟨a,b,xs,ys,rfl,rfl,ha,hb,hx,hz,q1,q2⟩:=h;cases rx;cases ry;obtain⟨its,r1,p1,_⟩:=I.tuple ha;obtain⟨its2,r2,p2,_⟩:=I.tuple hb;refine HT.cat_tup p1 p2 (λz=>hx (r1.nil_iff.mp z)) (λz=>⟨.ref a,H,I,rfl,q1 (r2.nil_iff.mp z)⟩) (λz=>?_) (by rw[<- r1.length,<- r2.length];exact hz);refine⟨.ref s.heap.objs.size,_,I.laid (t':=s.toks) (o:=.tup (xs++ys)) (λb ob q=>xm _ q) (xh _) ?_,rfl,q2 (λw=>z (r2.nil_iff.mpr w)) _ (I.hok.fresh (xh _))⟩;exact⟨by rw[xk];exact hz,_,r1.append r2,IsTup.new _ _⟩
end
noncomputable def ixN (n:Nat) (i:Int):Option Nat:=if 0<=i then(if i<n then some i.toNat else none)else if -(n:Int)<=i then some (i+n).toNat else none
noncomputable def atI {α:Type}(xs:List α) (i:Int):Option α:=(ixN xs.length i).bind λj=>xs[j]?
theorem zNs{n:Nat}{i:Int}{j:Nat}(h:ixN n i=some j):seqIndex? i n=some j/\j<n/\-(n:Int)<=i/\i<n:=by
 unfold ixN at h;by_cases h0:0<=i
 ·rw[xc h0]at h;by_cases h1:i<n
  ·rw[xc h1]at h;have e:i.toNat=j:=xB h;exact⟨by rw[seqIndex_of h0 h1,e],by nofun,by nofun,h1⟩
  ·rw[xf h1]at h;cases h
 ·rw[xf h0]at h;by_cases h1:-(n:Int)<=i
  ·rw[xc h1]at h;have e:(i+n).toNat=j:=xB h;exact⟨by rw[seqIndex_neg (by nofun) h1,e],by nofun,h1,by nofun⟩
  ·rw[xf h1]at h;cases h
theorem zJd{α:Type}{xs:List α}{i:Int}{v:α}(h:atI xs i=some v):∃j,seqIndex? i xs.length=some j/\xs[j]?=some v/\j<xs.length/\-(xs.length:Int)<=i/\i<xs.length:=by
 unfold atI at h;cases e:ixN xs.length i with
 | none=>rw[e]at h;cases h
 | some j=>
  rw[e]at h;obtain⟨h1,h2,h3,h4⟩:=zNs e;exact⟨j,h1,h,h2,h3,h4⟩
def zPp(b:Expr):Prop:=∀o i,subscripted b false o i=operate [o,i] (getItem o i)
def IxR(X:Cx)(r:R2):Prop:=
 ∀(value slice:Expr) (pins:List (Addr × Obj)) (s:Shared) (σ:St) (H:Hp) (x y:V) (v u:Value) (Q:VK),Inv X pins σ H s->RelV x v->RelV y u->r x y H Q->
  subscripted slice false v u=operate [v,u] (getItem v u)->wpAny (model X.prog X.w) X.A (subscriptTail value slice v u) (EP X pins σ Q) X.xe s
def MtR(X:Cx)(id:String)(r:V->List V->Hp->VK->Prop):Prop:=
 ∀(pins:List (Addr × Obj)) (s:Shared) (σ:St) (H:Hp) (x:V) (xs:List V) (v:Value) (us:List Value) (Q:VK),Inv X pins σ H s->RelV x v->Vals xs us->r x xs H Q->
  wpAny (model X.prog X.w) X.A (call (.builtin id) (v::us)) (EP X pins σ Q) X.xe s
section
variable {X:Cx}{a b:Expr}{ta tb:TE}{pos:Pos}
theorem yBk(hr:IxR X r)(ha:PE X a ta)(hb:PE X b tb)(hs:zPp b):PE X (.Subscript a b pos) (tOp r ta tb):=by intro pins s σ H Q I h;exact Subscript_ (binT ha hb I h λv u s2 x y H2 I2 rx ry q=>hr a b pins s2 σ H2 x y v u Q I2 rx ry q (hs _ _))
noncomputable def rIxL (K:PySem.W.Frag):R2:=λx y H Q=>∃p xs i v,x=.ref p/\y=.int i/\SqL K H p xs/\atI xs i=some v/\Q v H
noncomputable def rIxT (K:PySem.W.Frag):R2:=λx y H Q=>∃p xs i v,x=.ref p/\y=.int i/\SqT K H p xs/\atI xs i=some v/\Q v H
noncomputable def rIxS:R2:=λx y H Q=>∃z i c,x=.str z/\y=.int i/\z.length<=sizeLine/\atI z.cps.toList i=some c/\Q (.str ⟨#[c]⟩) H
theorem zVr:IxR X (rIxL X.K):=by
 intro value slice pins s σ H x y v u Q I rx ry h hs;obtain⟨p,xs,i,z,rfl,rfl,hq,he,q⟩:=h;cases rx;obtain⟨t,rfl⟩:=ry;obtain⟨its,r,pl,hz⟩:=I.list hq;obtain⟨j,h1,h2,h3,h4,h5⟩:=zJd he;obtain⟨w,ew,rw'⟩:=r.get h2;have hl:=r.length;have hn:=line63;have fin:EP X pins σ Q w s:=⟨z,H,I,rw',q⟩;by_cases h0:0<=i
 ·have hj:i.toNat=j:=by
   rw[seqIndex_of h0 h5]at h1;exact xB h1
  exact item_listR pl.isList h0 (by nofun) (by rw[hj];simpa using ew) fin hs
 ·have hj:(i+(its.toArray.size:Int)).toNat=j:=by
   rw[seqIndex_neg (by nofun) h4]at h1;rw[xu,<- hl];exact xB h1
  exact subscriptTail_builtinR (x:=w) pl.isList.typeIs slot_list_getitem.lookup
   (wpAny_getItem_list_neg (Q:=λr s'=>r=w/\EP X pins σ Q r s') pl.isList (by nofun) (by rw[xu] <;> lia) (by nofun) (by rw[hj];simpa using ew) ⟨rfl,fin⟩) hs
theorem zZf:IxR X (rIxT X.K):=by
 intro value slice pins s σ H x y v u Q I rx ry h hs;obtain⟨p,xs,i,z,rfl,rfl,hq,he,q⟩:=h;cases rx;obtain⟨t,rfl⟩:=ry;obtain⟨its,r,pl,hz⟩:=I.tuple hq;obtain⟨j,h1,h2,h3,h4,h5⟩:=zJd he;obtain⟨w,ew,rw'⟩:=r.get h2;have hl:=r.length;have hn:=line63;have fin:EP X pins σ Q w s:=⟨z,H,I,rw',q⟩;exact subscriptTail_builtinR (x:=w) pl.typeIs slot_tuple_getitem.lookup
  (getItem_tuple (j:=j) (Q:=λr s'=>r=w/\EP X pins σ Q r s') pl (by nofun) (by nofun) (by rw[xu,<- hl];exact h1) (by simpa using ew) ⟨rfl,fin⟩) hs
theorem zZg:IxR X rIxS:=by
 intro value slice pins s σ H x y v u Q I rx ry h hs;obtain⟨z,i,c,rfl,rfl,hz,he,q⟩:=h;obtain⟨t,rfl⟩:=rx;obtain⟨t',rfl⟩:=ry;obtain⟨j,h1,h2,h3,h4,h5⟩:=zJd he;have hl:z.cps.toList.length=z.length:=by simp[Str.length]
 rw[hl]at h1 h4 h5;have hn:=line63;exact tail_any (typeIs_str s z t) slot_str_getitem.lookup (getItem_str (c:=c) (by
  have e1:decide (i < -(2 ^ 63:Int))=false:=xi (by nofun);have e2:decide (i >= 2 ^ 63)=false:=xi (by nofun);rw[e1,e2,Bool.or_false]) (by rw[h1];simpa using h2) ⟨.str ⟨#[c]⟩,H,I.tok _,⟨_,rfl⟩,q⟩) hs
theorem zL7(its:List Value)(n j:Nat)(u:Value):Obj.mapSeq (·.setIfInBounds j u) { cls:=.type "list",data:=.seq its.toArray n }={ cls:=.type "list",data:=.seq (its.set j u).toArray n }:=by simp[Obj.mapSeq]
theorem Inv.lst{H:Hp}(I:Inv X pins σ H s)(h:H p=some (.lst xs)):
  ∃(its:List Value) (n:Nat),Vals xs its/\s.heap.get? p=some { cls:=.type "list",data:=.seq its.toArray n }/\xs.length<=sizeLine:=by
 obtain⟨z,its,n,r,e⟩:=I.hok p _ h;exact⟨its,n,r,e,z⟩
theorem Inv.lstUpd{H:Hp}{ys:List V}{its its':List Value}{n n':Nat}{f:Obj->Obj}(I:Inv X pins σ H s)(h:H p=some (.lst xs))
  (ho:s.heap.get? p=some { cls:=.type "list",data:=.seq its.toArray n }) (hf:f { cls:=.type "list",data:=.seq its.toArray n }={ cls:=.type "list",data:=.seq its'.toArray n' }) (r:Vals ys its') (hz:ys.length<=sizeLine) (t:Nat):
  Inv X pins σ (upd H p (.lst ys)) { s with heap:=s.heap.update p f,toks:=t }:=by
 have e:(s.heap.update p f).get? p=some { cls:=.type "list",data:=.seq its'.toArray n' }:=by rw[vF f ho (by rw[hf] <;> rfl),hf]
 refine I.write (x:=p) (e:=p) (by rw[h];trivial) (.inl rfl) (λb u hb q=>(vh _ _ (xA hb)).trans q) ⟨_,e⟩ ?_;exact⟨hz,its',n',r,e⟩
def yB7:V->V->V->Hp->(Hp->Prop)->Prop:=λo i v H Q=>∃p xs k j,o=.ref p/\i=.int k/\H p=some (.lst xs)/\ixN xs.length k=some j/\Q (upd H p (.lst (xs.set j v)))
theorem set_list:PSet X yB7:=by
 intro pins s σ H o i v ov iv u Q I ro ri rv h;obtain⟨p,xs,k,j,rfl,rfl,hp,hj,q⟩:=h;cases ro;obtain⟨t,rfl⟩:=ri;obtain⟨its,n,r,ho,hz⟩:=I.lst hp;obtain⟨h1,h2,h3,h4⟩:=zNs hj;have hl:=r.length;have hn:=line63;have I':Inv X pins σ (upd H p (.lst (xs.set j v))) { s with heap:=s.heap.update p (Obj.mapSeq (·.setIfInBounds j u)) }:=
  I.lstUpd hp ho (zL7 its n j u) (r.set rv j) (by rw[v8];exact hz) s.toks
 by_cases h0:0<=k
 ·have hk:k.toNat=j:=by
   rw[seqIndex_of h0 h4]at h1;exact xB h1
  exact PySem.W.ki_setAt ho h0 (by nofun) (by rw[xu,<- hl];exact h4) (by rw[hk];exact⟨_,I',q⟩)
 ·have hk:(k+(its.toArray.size:Int)).toNat=j:=by
   rw[seqIndex_neg (by nofun) h3]at h1;rw[xu,<- hl];exact xB h1
  exact PySem.W.ki_setBack ho (by nofun) (by rw[xu,<- hl];exact h3) (by nofun) (by rw[hk];exact⟨_,I',q⟩)
theorem zH0(lo hi:Option Int)(n:Nat):(sliceBounds lo hi none n).1=((HT.sIx n 0 lo:Nat):Int)/\(sliceBounds lo hi none n).2.1=((HT.sIx n n hi:Nat):Int)/\(sliceBounds lo hi none n).2.2=1:=by
 refine⟨?_,?_,rfl⟩
 ·cases lo with
  | none=>simp[sliceBounds,HT.sIx]
  | some i=>
   simp only[sliceBounds,HT.sIx,Option.getD_none,show(1:Int) > 0 by decide,xW];by_cases h:i<0
   ·simp only[h,xW] <;> lia
   ·simp only[h,xZ] <;> lia
 ·cases hi with
  | none=>simp[sliceBounds,HT.sIx]
  | some i=>
   simp only[sliceBounds,HT.sIx,Option.getD_none,show(1:Int) > 0 by decide,xW];by_cases h:i<0
   ·simp only[h,xW] <;> lia
   ·simp only[h,xZ] <;> lia
theorem zG1(its:List Value)(lo hi:Option Int):slicePick its.toArray lo hi none=((its.drop (HT.sIx its.length 0 lo)).take (HT.sIx its.length its.length hi-HT.sIx its.length 0 lo)).toArray:=by obtain⟨h1,h2,h3⟩:=zH0 lo hi its.toArray.size;unfold slicePick;rw[h1,h2,h3];simp only[sliceRange_one,pick_run,xu] <;> rfl
def rSlL(K:PySem.W.Frag):V->Option Int->Option Int->Hp->VK->Prop:=λx lo hi H Q=>∃a xs,x=.ref a/\SqL K H a xs/\∀p,H p=none->Q (.ref p) (upd H p (.lst (cutV xs lo hi)))
theorem zTv:SlR X (rSlL X.K):=by intro pins s σ H x v vl vu lo hi sl Q I rx hs pl pu h;obtain⟨a,xs,rfl,hx,q⟩:=h;cases rx;obtain⟨its,r,ht,hz⟩:=I.list hx;have hlen:=r.length;refine⟨"list",_,slot_list_getitem.lookup,ht.isList.typeIs,?_⟩;refine wpAny_getItem_list_slice ht.isList hs pl pu .none (by simp) ?_ (by rw[xu] <;> lia);rw[zG1,<- hlen];refine⟨.ref s.heap.objs.size,_,I.laid (t':=s.toks) (o:=.lst (cutV xs lo hi)) (λb ob q=>xm _ q) (xh _) ?_,rfl,q _ (I.hok.fresh (xh _))⟩;exact⟨xq (zEt xs lo hi) hz,_,0,(r.drop (HT.sIx xs.length 0 lo)).take (HT.sIx xs.length xs.length hi-HT.sIx xs.length 0 lo),xD _ rfl⟩
theorem zHn:zB9 X (.builtin "len") (λxs H Q=>∃p ys,xs=[.ref p]/\(SqL X.K H p ys\/SqT X.K H p ys)/\Q (.int ys.length) H):=by
 intro pins s σ H xs us Q I r h;obtain⟨p,ys,rfl,hq,q⟩:=h;obtain⟨u,rfl,rx⟩:=vals1 r;cases rx;have hn:=line63;rcases hq with hq|hq
 ·obtain⟨its,r',pl,hz⟩:=I.list hq;have hlen:=r'.length;exact Calls.call_len_list pl.isList (by simp only[xu] <;> lia) ⟨.int ys.length,H,I.tok _,⟨s.toks+1,by rw[xu,hlen]⟩,q⟩
 ·obtain⟨its,r',pl,hz⟩:=I.tuple hq;have hlen:=r'.length;exact len_tuple pl (by simp only[xu] <;> lia) ⟨.int ys.length,H,I.tok _,⟨s.toks+1,by rw[xu,hlen]⟩,q⟩
theorem zHm:zB9 X (.builtin "len") (λxs H Q=>∃z,xs=[.str z]/\z.length<=sizeLine/\Q (.int z.length) H):=by intro pins s σ H xs us Q I r h;obtain⟨z,rfl,hz,q⟩:=h;obtain⟨u,rfl,t,rfl⟩:=vals1 r;have hn:=line63;exact len_str (by nofun) ⟨.int z.length,H,I.tok _,⟨_,rfl⟩,q⟩
theorem zCk:zB9 X (.type "tuple") (λxs H Q=>∃p ys,xs=[.ref p]/\((SqL X.K H p ys/\∀l,H l=none->Q (.ref l) (upd H l (.tup ys)))\/(SqT X.K H p ys/\Q (.ref p) H))):=by
 intro pins s σ H xs us Q I r h;obtain⟨p,ys,rfl,h⟩:=h;obtain⟨u,rfl,rx⟩:=vals1 r;cases rx;rcases h with⟨hq,q⟩|⟨hq,q⟩
 ·obtain⟨its,r',pl,hz⟩:=I.list hq;have hlen:=r'.length;refine call_tuple_list pl.isList (λh' kp=>?_) (by simp only[xu] <;> lia);have I1:Inv X pins σ H { s with heap:=h' }:=I.kept (t':=s.toks) kp;have I2:Inv X pins σ (upd H h'.objs.size (.tup ys)) { s with heap:=h'.push { cls:=.type "tuple",data:=.seq its.toArray } }:=
   I1.laid (t':=s.toks) (λb o e=>xm _ e) (xh _) (show ObjOk X.prog X.w _ _ _ (.tup ys)from⟨hz,its,r',IsTup.new _ _⟩)
  exact⟨.ref h'.objs.size,_,I2,rfl,q _ (I1.hok.fresh (xh _))⟩
 ·obtain⟨its,r',pl,hz⟩:=I.tuple hq;exact call_tuple_same pl ⟨.ref p,H,I,rfl,q⟩
def tyV(K:PySem.W.Frag)(T:String)(x:V)(H:Hp):Prop:=match x with
 | .str _=>T="str"
 | .int _=>T="int"
 | .ref p=>(T="list"/\∃xs,SqL K H p xs)\/(T="tuple"/\∃o,K.lookup p=some o/\o.cls=.type "tuple"/\o.dict=none) \/
   (T="dict"/\((∃kvs,Rd H p (.dK kvs))\/∃kvs,Rd H p (.dT kvs)))\/(T="set"/\∃S n,H p=some (.set S n))
 | _=>False
theorem zS7(I:Inv X pins σ H s)(r:RelV x v)(ty:tyV X.K T x H):
  s.TypeIs v T/\∀a,v=.ref a->∃ob,s.heap.get? a=some ob/\ob.dict=none:=by
 cases x with
 | str z=>
  obtain⟨t,rfl⟩:=r;cases(show T="str" from ty);exact⟨typeIs_str s z t,λ_ e=>nomatch e⟩
 | int i=>
  obtain⟨t,rfl⟩:=r;cases(show T="int" from ty);exact⟨typeIs_int s i t,λ_ e=>nomatch e⟩
 | ref p=>
  cases r;rcases ty with⟨rfl,xs,hq⟩|⟨rfl,o,hk,hc,hd⟩|⟨rfl,hk⟩|⟨rfl,S,n,hk⟩
  ·obtain⟨its,_,pl,_⟩:=I.list hq;refine⟨pl.isList.typeIs,λa e=>?_⟩;cases e;obtain⟨o,n,e,c,hd,_⟩:=pl;exact⟨o,e,hd⟩
  ·refine⟨⟨o,I.kIn p o hk,hc⟩,λa e=>?_⟩;cases e;exact⟨o,I.kIn _ o hk,hd⟩
  ·have z:∃o,s.heap.get? p=some o/\o.ExactDict:=by
    rcases hk with⟨kvs,hk⟩|⟨kvs,hk⟩
    ·obtain⟨_,_,_,_,o,_,_,e,ex,_⟩:=(show ObjOk X.prog X.w H s.heap p (.dK kvs)from rd_of I.hok hk);exact⟨o,e,ex⟩
    ·obtain⟨_,_,_,_,o,_,_,e,ex,_⟩:=(show ObjOk X.prog X.w H s.heap p (.dT kvs)from rd_of I.hok hk);exact⟨o,e,ex⟩
   obtain⟨o,e,ex⟩:=z;refine⟨⟨o,e,ex.1⟩,λa e2=>?_⟩;cases e2;exact⟨o,e,ex.2.1⟩
  ·obtain⟨o,_,_,_,e,ex,_⟩:=I.hok p _ hk;refine⟨⟨o,e,ex.1⟩,λa e2=>?_⟩;cases e2;exact⟨o,e,ex.2.1⟩
 | _=>exact False.elim ty
noncomputable def tBM0 (K:PySem.W.Frag) (T:String) (r:V->List V->Hp->VK->Prop) (to:TE):TE:=λσ H Q=>to σ H λx H1=>tyV K T x H1/\r x [] H1 Q
noncomputable def tBM (K:PySem.W.Frag) (T:String) (r:V->List V->Hp->VK->Prop) (to:TE) (t:TA):TE:=λσ H Q=>to σ H λx H1=>tyV K T x H1/\t σ H1 λxs H2=>r x xs H2 Q
variable {o e:Expr}{es:List Expr}{to:TE}{t:TA}{name:Str}{apos cpos:Pos}{T id:String}{r:V->List V->Hp->VK->Prop}
theorem zYn(pa:PlainAttrs T)(slot:Slot T name id)(hty:typeOf (.builtin id)=pure (.type "method_descriptor"))(hm:MtR X id r)(ho:PE X o to)
  (hbase:attributeBase o name X.env (eval o X.env)=eval o X.env:=by rfl) (hline:(apos.endLine == cpos.line)=true:=by rfl):PE X (.Call (.Attribute o name apos) [] [] cpos) (tBM0 X.K T r to):=by
 intro pins s σ H Q I h;refine wpAny_Call_method0_late hbase hline (thn (ho pins s σ H _ I h) λv s1 hq1=>?_);obtain⟨x,H1,I1,r1,ty,q1⟩:=hq1;obtain⟨h1,h2⟩:=zS7 I1 r1 ty;exact⟨T,id,pa,slot,hty,h1,h2,Calls.callWith_builtin rfl (PySem.evalArgs_none (hm pins s1 σ H1 x [] v [] Q I1 r1 .nil q1))⟩
theorem yBl(pa:PlainAttrs T)(slot:Slot T name id)(hty:typeOf (.builtin id)=pure (.type "method_descriptor"))(hm:MtR X id r)(ho:PE X o to)(ha:PA X (e::es) t)
  (hbase:attributeBase o name X.env (eval o X.env)=eval o X.env:=by rfl)
  (hfew:((backTo cpos (starEach (e::es) X.env)).all (λx=>!x.1) && (backToKw cpos (keywordEach [] X.env)).all (λx=>x.1.isSome)
   && decide ((e::es).length+([]:List Keyword).length+(if([]:List Keyword).isEmpty then 0 else 1)<30))=true:=by rfl)
  (hline:(apos.endLine == cpos.line)=true:=by rfl) (hs:starEach (e::es) X.env=(false,eval e X.env)::starEach es X.env:=by rfl) (hplain:(backTo cpos (starEach es X.env)).any (·.1)=false:=by rfl):
  PE X (.Call (.Attribute o name apos) (e::es) [] cpos) (tBM X.K T r to t):=by
 intro pins s σ H Q I h;refine wpAny_Call_method_late hbase hfew hline rfl (thn (ho pins s σ H _ I h) λv s1 hq1=>?_);obtain⟨x,H1,I1,r1,ty,q1⟩:=hq1;obtain⟨h1,h2⟩:=zS7 I1 r1 ty;refine⟨T,id,pa,slot,hty,h1,h2,?_⟩;have hA:=ha cpos pins s1 σ H1 _ I1 q1;rw[hs]at hA ⊢;refine Calls.callWith_builtin (by show(false || (backTo cpos (starEach es X.env)).any (·.1))=false;rw[hplain] <;> rfl) (Calls.evalArgs_plain ?_);exact thn hA λus s2 hz0=>by obtain⟨vs,H2,I2,r2,q2⟩:=hz0;exact hm pins s2 σ H2 x vs v us Q I2 r1 r2 q2
end
def MtM(X:Cx)(id:String)(r:V->List V->Hp->VK->Prop):Prop:=
 ∀(pins:List (Addr × Obj)) (s:Shared) (σ:St) (H:Hp) (x:V) (xs:List V) (v:Value) (us:List Value) (Q:VK),Inv X pins σ H s->RelV x v->Vals xs us->r x xs H Q->
  wpAny (model X.prog X.w) X.A (call (.builtin id) (v::us)) (EP X pins σ Q) X.xe s
theorem Vals.one:∀{x:V}{us:List Value},Vals [x] us->∃u,us=[u]/\RelV x u
 | _,_,.cons r .nil=>⟨_,rfl,r⟩
theorem Vals.two:∀{x y:V}{us:List Value},Vals [x,y] us->∃u v,us=[u,v]/\RelV x u/\RelV y v
 | _,_,_,.cons r (.cons q .nil)=>⟨_,_,rfl,r,q⟩
theorem Vals.zero:∀{us:List Value},Vals [] us->us=[]
 | _,.nil=>rfl
theorem Vals.dropLast{xs:List V}{us:List Value}(h:Vals xs us):Vals xs.dropLast us.dropLast:=by
 induction h with
 | nil=>exact .nil
 | cons r t ih=>
  cases t with
  | nil=>exact .nil
  | cons q t'=>exact .cons r ih
theorem Vals.reverse{xs:List V}{us:List Value}(h:Vals xs us):Vals xs.reverse us.reverse:=by
 induction h with
 | nil=>exact .nil
 | cons r t ih=>rw[List.reverse_cons,List.reverse_cons];exact Vals.append ih (.cons r .nil)
theorem zLj{α:Type}(l:List α):l.eraseIdx (l.length-1)=l.dropLast:=by
 induction l with
 | nil=>rfl
 | cons a r ih=>
  cases r with
  | nil=>rfl
  | cons b r=>
   have e:(a::b::r).length-1=((b::r).length-1)+1:=by have h1:(a::b::r).length=r.length+2:=rfl;have h2:(b::r).length=r.length+1:=rfl;lia
   rw[e,List.eraseIdx_cons_succ,ih]
   all_goals rfl
section
variable {X:Cx}{pins:List (Addr × Obj)}{σ:St}{H:Hp}{s:Shared}{l b:Addr}{xs ys zs:List V}
theorem Inv.lset{its its':List Value}{n:Nat}{f:Array Value->Array Value}{t':Nat}(I:Inv X pins σ H s)(hH:H l=some (.lst xs))
  (e:s.heap.get? l=some { cls:=.type "list",data:=.seq its.toArray n }) (hf:f its.toArray=its'.toArray) (hv:Vals ys its') (hz:ys.length<=sizeLine):
  Inv X pins σ (upd H l (.lst ys)) { s with heap:=s.heap.update l (Obj.mapSeq f),toks:=t' }:=by
 have q:=PySem.IsL.update e f;rw[hf]at q;refine I.write (x:=l) (e:=l) (by rw[hH];exact trivial) (.inl rfl) (λb' u hb hu=>(vh s.heap (Obj.mapSeq f) (xA hb)).trans hu) ⟨_,q⟩ ?_;exact⟨hz,its',_,hv,q⟩
theorem Inv.lnew{t':Nat}(I:Inv X pins σ H s)(hv:Vals ys its)(hz:ys.length<=sizeLine):
  Inv X pins σ (upd H s.heap.objs.size (.lst ys)) { s with heap:=s.heap.push { cls:=.type "list",data:=.seq its.toArray },toks:=t' }:=
 I.laid (λ_ _ q=>xm _ q) (xh _) ⟨hz,its,0,hv,xD _ rfl⟩
theorem Inv.fresh(I:Inv X pins σ H s):H s.heap.objs.size=none:=I.hok.fresh (xh _)
theorem Inv.lstM(I:Inv X pins σ H s)(hH:H l=some (.lst xs)):xs.length<=sizeLine/\∃(its:List Value) (n:Nat),Vals xs its/\xs.length=its.length/\s.heap.get? l=some { cls:=.type "list",data:=.seq its.toArray n }:=by obtain⟨z,its,n,r,e⟩:=I.hok l _ hH;exact⟨z,its,n,r,r.length,e⟩
theorem zR3{n:Nat}(h:n<=sizeLine):Builtin.List.listTooLong n=false:=by unfold Builtin.List.listTooLong;exact xi (by nofun)
end
section
variable {X:Cx}
def zU5:V->List V->Hp->VK->Prop:=λx vs H Q=>∃l xs y,x=.ref l/\vs=[y]/\H l=some (.lst xs)/\xs.length<sizeLine/\Q .non (upd H l (.lst (xs++[y])))
theorem zNf:MtM X "list.append" zU5:=by intro pins s σ H x vs v us Q I rx rv h;obtain⟨l,xs,y,rfl,rfl,hH,hz,q⟩:=h;cases rx;obtain⟨u,rfl,ru⟩:=rv.one;obtain⟨z,its,n,r,hl,e⟩:=I.lstM hH;refine vM F.slot_list_append ⟨_,e,rfl⟩ F.entry_list_append (F.args_list_append_2 _ _) (PySem.list_append l its.toArray n u (by rw[xu];lia)) ⟨e,?_⟩;refine⟨.non,_,I.lset (its':=its++[u]) hH e (by simp) (r.append (.cons ru .nil)) ?_,rfl,q⟩;rw[xk,xG];lia
def rPop:V->List V->Hp->VK->Prop:=λx vs H Q=>∃l xs y,x=.ref l/\vs=[]/\H l=some (.lst xs)/\xs[xs.length-1]?=some y/\Q y (upd H l (.lst xs.dropLast))
theorem zZ2:MtM X "list.pop" rPop:=by
 intro pins s σ H x vs v us Q I rx rv h;obtain⟨l,xs,y,rfl,rfl,hH,hy,q⟩:=h;cases rx;have hus:=rv.zero;subst hus;obtain⟨z,its,n,r,hl,e⟩:=I.lstM hH;obtain⟨u,hu,ru⟩:=r.get hy;have hy':its.toArray[its.toArray.size-1]?=some u:=by show its.toArray[its.length-1]?=some u;rw[<- Array.getElem?_toList,<- hl];exact hu
 refine vM F.slot_list_pop ⟨_,e,rfl⟩ F.entry_list_pop (F.args_list_pop_1 _) (MeetsSeq.list_pop_last l its.toArray n u hy' (by rw[xu];lia)) ⟨e,?_⟩;refine⟨y,_,I.lset (its':=its.dropLast) hH e ?_ r.dropLast ?_,ru,q⟩
 ·show its.toArray.eraseIdxIfInBounds (its.toArray.size-1)=its.dropLast.toArray;rw[xu,List.eraseIdxIfInBounds_toArray,zLj]
 ·rw[List.length_dropLast];lia
theorem len_rep{α:Type}(xs:List α)(k:Nat):(List.replicate k xs).flatten.length=k*xs.length:=by
 induction k with
 | zero=>simp
 | succ k ih=>rw[uC,v9,xk,ih,Nat.succ_mul,Nat.add_comm]
end
end L2
namespace Att
open PySem PySem.W PySem.Calls PyProof.Rows
theorem zEo :∀(ns:List Int) (vs:List Value),WellAll P h vs (ns.map WData.int)->IntsAre vs ns:=by
 intro ns;induction ns with
 | nil=>
  intro vs w;rw[vp]at w;cases w;exact .nil
 | cons n ns ih=>
  intro vs w;rw[xt]at w;cases w with
  | cons a b=>
   cases a;exact .cons _ _ (ih _ b)
theorem zMk{l:OpenLaw}{n:Nat}(hn:l.most=some n){P:Params}{h:Heap}{args:List WData}{vals:List Value}
  (hpre:l.row.toRowW.claim.pre args=true) (hwl:WellAll P h vals args):
  ∃a vs ns,vals=[Value.ref a]/\args=[WData.list (ns.map WData.int)]/\h.get? a=some { cls:=.type "list",data:=.seq vs.toArray }/\IntsAre vs ns/\ns.length<=n:=by
 have hsh:WShape.hasAll [] args [.list .int]=true:=(pre_splitW hpre).1;have hc:l.pre.holds [] { args:=args }=true:=(pre_splitW hpre).2;obtain⟨d,r,rfl,h1,h2⟩:=hasAllW_cons hsh;obtain rfl:=hasAllW_nil h2;obtain⟨xs,rfl,h3⟩:=hasW_list h1;obtain⟨ns,rfl⟩:=items_int h3;have hlen:ns.length<=n:=by
  unfold OpenLaw.pre at hc;have h4:(WTm.not (.lt (.lit (.int (n:Int))) (.len (.arg 0)))).holds [] { args:=[.list (ns.map .int)] }=true:=by have h4:=(holds_andW hc).1;rw[hn]at h4;exact h4
  have h5:=condW_of h4 (w_not (w_lt w_lit (w_len_list (w_arg rfl))));rw[xp]at h5;refine Nat.le_of_not_lt λq=>?_
  have q':(n:Int)<((ns.length:Nat):Int):=by nofun
  first
   | (rw[xj q']at h5;exact absurd h5 (by decide))
   | (simp at h5;lia)
 cases hwl with
 | cons w1 w2=>
  cases w2;cases w1 with
  | list ho hall=>exact⟨_,_,ns,rfl,rfl,ho,zEo ns _ hall,hlen⟩
theorem zMv(l:OpenLaw)(args:List WData):l.row.toRowW.claim.post args (.bool true) args=true:=
 postW_of (r:=l.row.toRowW) (X:=(true == true))
  (show WShape.has [] (.bool true) .bool=true by first|rfl|decide|simp[WShape.has,WShape.arms,WShape.armsAll])
  (show(WTm.eq .res (.lit (.bool true))).value [] { args:=args,res:=some (.bool true),after:=args }=some (.bool (true == true))from w_eq_bool (w_res rfl) w_lit) rfl
theorem attach_call{l:OpenLaw}{n:Nat}{q:Program}{loose:List Str}{XP:(Str->Option Value)->Heap->Prop}{YP:World->Heap->Prop}{d:DefRec}
  (hn:l.most=some n) (hdf:d.params.defaults=[])
  (call:∀(w:World) (s₀ s₁:Shared) (mg mb:Str->Option Value) (fa:Addr) (o:Obj) (pm cd doc:Value) (a:Addr) (vs:List Value) (ns:List Int),
   Ground q loose [] XP w s₀ mg mb s₁.heap->YP w s₁.heap->
   s₁.heap.get? fa=some o->o.data=.func (docDef d.name d.params d.body d.scope pm cd doc)->s₁.heap.CodeRec cd d.name->mg d.name=some (.ref fa)->
   s₁.heap.get? a=some { cls:=.type "list",data:=.seq vs.toArray }->IntsAre vs ns->ns.length<=n->s₁.gens=#[]->
   codeAny (model l.prog w) callerA (.call (.ref fa) ⟨[.ref a],[]⟩) (λr s'=>r=.ok (.ret (.bool true))/\OldK s₁.heap s'.heap/\s'.os=s₁.os/\AllBare s'.gens) s₁):
  WalkO q loose XP YP l.row.toRowW d [] (λf vs=>PySem.call f vs):=by
 intro w s₀ s₁ mg mb G Y fa o pm cd doc dV kV ho hd hcd hD hmg hg args vals as hpre hlay hrd hwl hlo;obtain rfl:dV=.none:=Dflts.none hD hdf;obtain rfl:kV=.none:=Dflts.noKw hD;obtain⟨a,vs,ns,rfl,rfl,hobj,hints,hlen⟩:=zMk hn hpre hwl;refine enter_call (codeAny_mono (call w s₀ s₁ mg mb fa o pm cd doc a vs ns G Y ho (fd_plain hd) hcd hmg hobj hints hlen hg) λr s' hq=>?_);obtain⟨rfl,h2,h3,h4⟩:=hq;exact⟨.inl ⟨.bool true,.bool true,[],rfl,λ_=>rfl,.bool true,zMv l _,λ_=>⟨List.Pairwise.nil,λ_ hm=>(nomatch hm)⟩⟩,h2,h3,h4⟩
end Att
namespace L2
open PySem PySem.Spec PyProof.Rows
theorem zGv:∀{vs:List Value}{ns:List Int},IntsAre vs ns->Vals (ns.map V.int) vs
 | _,_,.nil=>.nil
 | _,_,.cons n t h=>.cons ⟨t,rfl⟩ (zGv h)
noncomputable def zBo (s:Stmt):Arguments:=match s with
 | .FunctionDef _ a _ _ _ _ _ _ _ _=>a
 | _=>{ posonlyargs:=[],args:=[],vararg:=none,kwonlyargs:=[],kw_defaults:=[],kwarg:=none,defaults:=[] }
noncomputable def zAu (s:Stmt):List Stmt:=match s with
 | .FunctionDef _ _ b _ _ _ _ _ _ _=>b
 | _=>[]
noncomputable def zA6 (s:Stmt):Scope:=match s with
 | .FunctionDef _ _ _ _ _ _ sc _ _ _=>sc
 | _=>{ kind:=.function,names:=[],isGenerator:=false,isCoroutine:=false }
noncomputable abbrev CX0:CXT:=λ_ _ _ _ _ _=>False
noncomputable abbrev E0:XK:=λ_ _ _=>False
theorem pass0 :Passes CX0 X E0:=λ_ _ _ _ _ _ _ h=>h.elim
structure Fun (K:PySem.W.Frag) (x qual:Str) (st:Stmt) (f:Addr) (fd:FuncData):Prop where
 ex:∃(oc:Value) (od:Option Addr) (kV doc pm:Value) (an:Option Addr) (cdv ct:Value) (osl:Array (Option Value)),
  fd=PySem.W.fnOf x qual (zBo st) (zAu st) (zA6 st) .none kV doc pm an cdv ct/\K.lookup f=some ⟨oc,od,.func fd,osl⟩/\PySem.W.codeIn K cdv qual=true
 kp:PySem.W.keepIn K (.ref f)=true
section
variable {P:Program}{w:World}{K:PySem.W.Frag}{mg:Str->Option Value}{base:Heap}
theorem Fun.ok{x qual:Str}{st:Stmt}{f:Addr}{fd:FuncData}{N ps:List Str}{k:Nat}{sp:Sp}(F:Fun K x qual st f fd)(S:zCz N ps (zA6 st))(len:∀vs H Q E,sp vs H Q E->vs.length=ps.length)
  (hbody:∀(cdv:Value) (A:Around) (outer:List Env) (s:Shared) (H:Hp) (vs:List V) (Q:VK) (E:XK),Room k (A.deeper (envOfC qual (zA6 st) s.heap.objs.size f cdv))->sp vs H Q E->
   ∃t,PSs (cxOf CX0 P w K mg base N qual (zA6 st) f cdv A outer s H E).nox (zAu st) t/\t { nx:=λ_ H'=>Q .non H',rt:=Q } (start N vs) H):FnOk P w K mg base CX0 (k+1) f fd ps sp:=by
 obtain⟨oc,od,kV,doc,pm,an,cdv,ct,osl,rfl,lk,hcd⟩:=F.ex;refine zZo lk hcd S len λA outer s H vs Q E hr hsp=>?_
 obtain⟨t,h,q⟩:=hbody cdv A outer s H vs Q E hr hsp;exact⟨t,h.nox,q⟩
theorem Fun.binds{x qual:Str}{st:Stmt}{f:Addr}{fd:FuncData}{ps:List Str}(F:Fun K x qual st f fd)
  (h:∀(kV doc pm:Value) (an:Option Addr) (cdv ct:Value) (us:List Value),us.length=ps.length->bindArgs (PySem.W.fnOf x qual (zBo st) (zAu st) (zA6 st) .none kV doc pm an cdv ct) ⟨us,[]⟩=pure (ps.zip us)):Binds K fd ps []:=by
 obtain⟨oc,od,kV,doc,pm,an,cdv,ct,osl,rfl,lk,hcd⟩:=F.ex;exact .all (h kV doc pm an cdv ct)
theorem zSw{x qual:Str}{st:Stmt}{f:Addr}{oc:Value}{od an:Option Addr}{osl:Array (Option Value)}{kV doc pm cdv ct:Value}(l:K.lookup f=some ⟨oc,od,.func (PySem.W.fnOf x qual (zBo st) (zAu st) (zA6 st) .none kV doc pm an cdv ct),osl⟩)
  (c:PySem.W.codeIn K cdv qual=true) (k:PySem.W.keepIn K (.ref f)=true):Fun K x qual st f (PySem.W.fnOf x qual (zBo st) (zAu st) (zA6 st) .none kV doc pm an cdv ct):=⟨⟨oc,od,kV,doc,pm,an,cdv,ct,osl,rfl,l,c⟩,k⟩
end
theorem yC0{A:Around}(hr:Room k A):A.units+1<cLine:=Nat.lt_of_le_of_lt (Nat.add_le_add_left (by decide:1<=64) _) hr.units
section
variable {X:Cx}
theorem pv(i:Nat){pos:Pos}(hN:X.N[i]?=some x:=by rfl)(hv:Vis X.env.scope x:=by first|exact Or.inl rfl|exact Or.inr (Or.inl rfl)|exact Or.inr (Or.inr rfl))(hd:(x == ("__debug__":Str))=false:=by decide)
  (hcd:(x == ("__classdict__":Str))=false:=by decide):PE X (.Name x pos) (tVar i):=zYb hN hv hd hcd
end
section
variable {prog:Program}{w:World}{A:Around}{R:Result->Shared->Prop}{s:Shared}
theorem zHj{elt target iter:Expr}{ifs:List Expr}{scope:Scope}{pos:Pos}{it acc:Value}{env:Env}(I:Nat->Shared->Prop)
  (turn:∀n s,I n s->wpAny (model prog w) A (pyNext it) (λr s₁=>match r with
   | none=>R (.ok .next) s₁
   | some v=>wpAny (model prog w) A (letOwnedTupleGo target it v) (λ_ s₂=>wpAny (model prog w) A (assign target env v) (λ_ s₂=>
     wpAny (model prog w) A (forIn ifs true λc r=>if r=true then do let ok <- isTrue c env (eval c env);pure (ForInStep.yield ok)else pure (ForInStep.yield r)) (λok s₃=>
      if ok=true then wpAny (model prog w) A (eval elt env) (λx s₄=>
       wpAny (model prog w) A (call (.builtin "list.append") [acc,x]) (λ_ s₅=>∃m,m<n/\I m s₅) (λ_ _=>False) s₄) (λ_ _=>False) s₃
      else ∃m,m<n/\I m s₃) (λ_ _=>False) s₂) (λ_ _=>False) s₂) (λ_ _=>False) s₁) (λ_ _=>False) s)
  (n:Nat) (h:I n s):
  codeAny (model prog w) A (.compLoop (.ListComp elt [⟨target,iter,ifs,0⟩] scope pos) 0 it acc env) R s:=by
 refine codeAny_loop rfl I (λn s hI=>?_) n h;show wpAny _ A ((compTurn (.ListComp elt [⟨target,iter,ifs,0⟩] scope pos) 0 it acc env).onRaise (λx=>do noteFrame x env;theTreesLotGoes x)) _ _ s;refine wpAny_noted ?_;rw[compTurn_list];refine xa (uj (xa (vd (turn n s hI) (λr s₁ h₁=>?_) λ_ _ h'=>h'.elim)));cases r with
 | none=>exact xg h₁
 | some v=>
  refine xa (vd h₁ (λ_ s₁' h₁=>?_) λ_ _ h'=>h'.elim);refine xa (vd h₁ (λ_ s₂ h₂=>xa (vd h₂ (λok s₃ h₃=>?_) λ_ _ h'=>h'.elim)) λ_ _ h'=>h'.elim);cases ok with
  | false=>exact xg ⟨rfl,h₃⟩
  | true=>
   exact xa (xa (vd h₃ (λx s₄ h₄=>xa (vd h₄ (λ_ s₅ h₅=>xg (xg ⟨rfl,h₅⟩)) λ_ _ h'=>h'.elim)) λ_ _ h'=>h'.elim))
end
theorem zLs{env:Env}:∀(names:List (Str × NameKind)) (cs:List (Str × Addr)),(∀y∈names,y.2=.free->∃c,env.cells.lookup y.1=some c)->∃cl:List (Str × Addr),
  (forIn names cs λx r=>(match x,r with|(name,kind),cs=>if(kind == NameKind.free)=true then do let c <- cellOf env name;pure (ForInStep.yield ((name,c)::cs))else pure (ForInStep.yield cs)):Sem (List (Str × Addr)))=pure cl /\
  (∀x c,cl.lookup x=some c->cs.lookup x=some c\/env.cells.lookup x=some c)/\(∀x c,cs.lookup x=some c->∃c',cl.lookup x=some c')/\∀y∈names,y.2=.free->∃c,cl.lookup y.1=some c:=by
 intro names;induction names with
 | nil=>intro cs _;exact⟨cs,rfl,λ_ _ h=>.inl h,λx c h=>⟨c,h⟩,λ_ h=>nomatch h⟩
 | cons y r ih=>
  intro cs h;obtain⟨n,k⟩:=y;have hr:∀y∈r,y.2=.free->∃c,env.cells.lookup y.1=some c:=λy hy=>h y (vC _ hy)
  by_cases hk:k=.free
  ·subst hk;obtain⟨c,hc⟩:=h (n,.free) vx rfl;obtain⟨cl,e,h1,h2,h3⟩:=ih ((n,c)::cs) hr;refine⟨cl,?_,λx d hx=>?_,λx d hx=>?_,λy hy hf=>?_⟩
   ·rw[ua];have hcell:cellOf env n=(pure c:Sem Addr):=by simp only[cellOf,hc]
    simp only[ur,xW,hcell];simpa using e
   ·rcases h1 x d hx with z|z
    ·rw[xT]at z;by_cases hxn:(x == n)=true
     ·rw[hxn]at z;simp at z;subst z;have:x=n:=by simpa using hxn
      subst this;exact .inr hc
     ·rw[uD]at hxn;rw[hxn]at z;exact .inl z
    ·exact .inr z
   ·by_cases hxn:(x == n)=true
    ·exact h2 x c (by rw[xT,hxn])
    ·rw[uD]at hxn;exact h2 x d (by rw[xT,hxn];exact hx)
   ·rcases xr.mp hy with z|z
    ·subst z;exact h2 n c (by rw[xT];simp)
    ·exact h3 y z hf
  ·have hb:(k == NameKind.free)=false:=by simpa using hk
   obtain⟨cl,e,h1,h2,h3⟩:=ih cs hr;refine⟨cl,?_,h1,h2,λy hy hf=>?_⟩
   ·rw[ua];simp only[hb,vi,xZ];simpa using e
   ·rcases xr.mp hy with z|z
    ·subst z;exact absurd hf hk
    ·exact h3 y z hf
theorem zDq{scope:Scope}{env:Env}(h:∀y∈scope.names,y.2=.free->∃c,env.cells.lookup y.1=some c):∃cl:List (Str × Addr),closureFor scope env=pure cl /\
  (∀x c,cl.lookup x=some c->env.cells.lookup x=some c)/\∀y∈scope.names,y.2=.free->∃c,cl.lookup y.1=some c:=by
 obtain⟨cl,e,h1,_,h3⟩:=zLs scope.names [] h;refine⟨cl,?_,λx c hx=>(h1 x c hx).elim (λz=>nomatch z) id,h3⟩;simp only[closureFor];rw[e];rfl
theorem zDx{scope:Scope}(h:(relabel scope env).names.lookup x=some .cell\/(relabel scope env).names.lookup x=some .free):∃y∈scope.names,y.1=x/\(y.2=.free\/y.2=.cell):=by
 have key:∀(l:List (Str × NameKind)),((l.map fun(n,k)=>if(k == NameKind.free && env.scope.kind == .function && env.kindOf n == some .cell)then(n,NameKind.cell)else(n,k)).lookup x=some .cell \/
   (l.map fun(n,k)=>if(k == NameKind.free && env.scope.kind == .function && env.kindOf n == some .cell)then(n,NameKind.cell)else(n,k)).lookup x=some .free)->∃y∈l,y.1=x/\(y.2=.free\/y.2=.cell):=by
  intro l;induction l with
  | nil=>intro h;rcases h with h|h <;> simp at h
  | cons y r ih=>
   intro h;obtain⟨n,k⟩:=y;by_cases hb:(k == NameKind.free && env.scope.kind == .function && env.kindOf n == some .cell)=true
   ·have kf:k=.free:=by simp at hb;exact hb.1.1
    by_cases hx:(x == n)=true
    ·have:x=n:=by simpa using hx
     exact⟨(n,k),vx,this.symm,.inl kf⟩
    ·rw[uD]at hx;simp only[xt,hb,xW,xT,hx]at h;obtain⟨y,hy,z⟩:=ih h;exact⟨y,vC _ hy,z⟩
   ·rw[uD]at hb;by_cases hx:(x == n)=true
    ·have e:x=n:=by simpa using hx
     simp only[xt,hb,xT,hx,vi,xZ]at h;rcases h with h|h
     ·exact⟨(n,k),vx,e.symm,.inr (xB h)⟩
     ·exact⟨(n,k),vx,e.symm,.inl (xB h)⟩
    ·rw[uD]at hx;simp only[xt,hb,xT,hx,vi,xZ]at h;obtain⟨y,hy,z⟩:=ih h;exact⟨y,vC _ hy,z⟩
 exact key scope.names h
noncomputable def zAf (X:Cx) (N:List Str) (scope:Scope) (cl:List (Str × Addr)) (C:Addr) (s:Shared) (H:Hp) (fp:List Addr):Cx where
 prog:=X.prog
 w:=X.w
 K:=X.K
 mg:=X.mg
 base:=X.base
 A:=X.A
 N:=N
 s₀:=s
 H₀:=H
 env:=compEnvC scope cl C X.env
 outer:=X.stack
 stack:=X.stack
 ex:=fp
 fn:=λx=>scope.names.lookup x == some .cell
 calm:=X.calm
 pn:=[]
 xe:=λ_ _=>False
structure CompScope (X:Cx) (own fre:List Str) (ix:List Nat) (scope:Scope):Prop where
 kind:scope.kind=.function
 cell:∀y∈scope.names,y.2=.cell->scope.names.lookup y.1=some .cell
 loc:∀y∈scope.names,y.2=.local->scope.names.lookup y.1=some .local
 fr:∀y∈scope.names,y.2=.free->X.env.kindOf y.1=some .cell\/X.env.kindOf y.1=some .free
 len:fre.length=ix.length
 at_:∀(j:Nat) (i:Nat) (x:Str),fre[j]?=some x->ix[j]?=some i->X.N[i]?=some x/\(X.env.kindOf x=some .cell\/X.env.kindOf x=some .free)
 vis:∀x∈fre,(relabel scope X.env).names.lookup x=some .cell\/(relabel scope X.env).names.lookup x=some .free
 fno:∀x∈fre,scope.names.lookup x≠some .cell
noncomputable def zQa (scope sc:Scope):Scope:=
 { scope with names:=scope.names.map fun(n,k)=>if(k == .free && sc.kind == .function && sc.names.lookup n == some .cell)then(n,.cell)else(n,k) }
noncomputable def zBu (o:Option NameKind):Bool:=o == some .cell || o == some .free
theorem zCb(h:zBu o=true):o=some .cell\/o=some .free:=by simpa[zBu]using h
noncomputable def zOs (sc:Scope) (N own fre:List Str) (ix:List Nat) (scope:Scope):Bool:=
 (scope.kind == .function) && (scope.names.all λy=>y.2 != .cell || scope.names.lookup y.1 == some .cell) && (scope.names.all λy=>y.2 != .local || scope.names.lookup y.1 == some .local) &&
 (scope.names.all λy=>y.2 != .free || zBu (sc.names.lookup y.1)) && (fre.length == ix.length) && ((fre.zip ix).all λp=>N[p.2]? == some p.1 && zBu (sc.names.lookup p.1)) &&
 (fre.all λx=>zBu ((zQa scope sc).names.lookup x)) && fre.all λx=>scope.names.lookup x != some .cell
theorem CompScope.mk'{X:Cx}{ix:List Nat}(hs:X.env.scope=sc)(hN:X.N=N)(h:zOs sc N own fre ix scope=true):CompScope X own fre ix scope:=by
 simp only[zOs,xl]at h;obtain⟨⟨⟨⟨⟨⟨⟨h1,h2⟩,h3⟩,h4⟩,h5⟩,h6⟩,h7⟩,h8⟩:=h;subst hs;subst hN;refine⟨by simpa using h1,λy hy hl=>?_,λy hy hl=>?_,λy hy hl=>?_,by simpa using h5,λj i x e1 e2=>?_,λx hx=>?_,λx hx=>?_⟩
 ·have:=ve.mp h2 y hy;rw[hl]at this;simpa using this
 ·have:=ve.mp h3 y hy;rw[hl]at this;simpa using this
 ·have:=ve.mp h4 y hy;rw[hl]at this;exact zCb (show zBu (X.env.scope.names.lookup y.1)=true by simpa using this)
 ·have hz:(x,i)∈fre.zip ix:=by
   refine uu.mpr ⟨j,?_⟩;rw[List.getElem?_zip_eq_some];exact⟨e1,e2⟩
  have:=ve.mp h6 (x,i) hz;simp only[xl]at this;exact⟨by simpa using this.1,zCb this.2⟩
 ·exact zCb (ve.mp h7 x hx)
 ·have:=ve.mp h8 x hx;simpa using this
section
variable {M:Model}{A:Around}{E:Value->Shared->Prop}{s:Shared}
theorem zOx{lo:Nat}:∀(names:List (Str × NameKind)) (n:Nat) (acc:List (Str × Addr)) (x:Str) (c:Addr),lo<=n->((x,NameKind.cell)∈names\/∀c,acc.lookup x=some c->lo<=c)->(cellsFrom n names acc).lookup x=some c->lo<=c
 | [],_,_,_,_,_,h,e=>h.elim (λz=>nomatch z) λz=>z _ e
 | (m,k)::r,n,acc,x,c,hn,h,e=>by
  unfold cellsFrom at e;split at e
  ·refine zOx r (n+1) _ x c (by nofun) ?_ e;by_cases hx:x=m
   ·refine .inr λc' q=>?_
    rw[xT,show(x == m)=true by rw[hx];exact ur m]at q;cases q;exact hn
   ·have hb:(x == m)=false:=by simpa using hx
    rcases h with h|h
    ·rcases xr.mp h with z|z
     ·exact absurd (congrArg Prod.fst z) hx
     ·exact .inl z
    ·exact .inr λc' q=>h c' (by rw[xT,hb]at q;exact q)
  ·rename_i hk;refine zOx r n acc x c hn ?_ e;rcases h with h|h
   ·rcases xr.mp h with z|z
    ·cases z;exact absurd rfl hk
    ·exact .inl z
   ·exact .inr h
theorem zOy:∀(names:List (Str × NameKind)) (n:Nat) (acc:List (Str × Addr)) (x:Str),(∀y∈names,y.1=x->y.2≠.cell)->(cellsFrom n names acc).lookup x=acc.lookup x
 | [],_,_,_,_=>rfl
 | (m,k)::r,n,acc,x,h=>by
  unfold cellsFrom;split
  ·rename_i hk;rw[zOy r _ _ x λy hy=>h y (vC _ hy),xT];have hx:(x == m)=false:=by
    cases q:x == m with
    | false=>rfl
    | true=>exact absurd (by simpa using hk) (h (m,k) vx (by simpa using(vt.mp q).symm))
   rw[hx]
  ·exact zOy r n acc x λy hy=>h y (vC _ hy)
theorem zOz:∀(names:List (Str × NameKind)) (n:Nat) (acc:List (Str × Addr)),(∀x c,acc.lookup x=some c->c<n)->(∀x y c,acc.lookup x=some c->acc.lookup y=some c->x=y)->
  ∀x y c,(cellsFrom n names acc).lookup x=some c->(cellsFrom n names acc).lookup y=some c->x=y
 | [],_,_,_,h=>h
 | (m,k)::r,n,acc,hl,h=>by
  unfold cellsFrom;split
  ·refine zOz r (n+1) _ (λx c e=>?_) λx y c e1 e2=>?_
   ·rw[xT]at e;cases q:x == m with
    | true=>rw[q]at e;cases e;exact uv _
    | false=>rw[q]at e;exact Nat.lt_succ_of_lt (hl x c e)
   ·rw[xT]at e1 e2;cases q:x == m with
    | true=>
     cases q':y == m with
     | true=>rw[vt.mp q,vt.mp q']
     | false=>rw[q]at e1;rw[q']at e2;cases e1;exact absurd (hl y _ e2) (vk _)
    | false=>
     cases q':y == m with
     | true=>rw[q]at e1;rw[q']at e2;cases e2;exact absurd (hl x _ e1) (vk _)
     | false=>rw[q]at e1;rw[q']at e2;exact h x y c e1 e2
  ·exact zOz r n acc hl h
theorem zGm:∀(names:List (Str × NameKind)) (n:Nat) (acc:List (Str × Addr)) (x:Str),((x,NameKind.cell)∈names\/∃c,acc.lookup x=some c)->∃c,(cellsFrom n names acc).lookup x=some c
 | [],_,_,_,h=>h.elim (λz=>nomatch z) id
 | (m,k)::r,n,acc,x,h=>by
  unfold cellsFrom;split
  ·refine zGm r (n+1) _ x ?_;cases q:x == m with
   | true=>exact .inr ⟨n,by rw[xT,q]⟩
   | false=>
    rcases h with h|⟨c,h⟩
    ·rcases xr.mp h with z|z
     ·rw[show x=m from congrArg Prod.fst z,ur]at q;cases q
     ·exact .inl z
    ·exact .inr ⟨c,by rw[xT,q];exact h⟩
  ·rename_i hk;refine zGm r n acc x ?_;rcases h with h|h
   ·rcases xr.mp h with z|z
    ·cases z;exact absurd rfl hk
    ·exact .inl z
   ·exact .inr h
theorem zIy:∀(names:List (Str × NameKind)) (h:Heap) (acc:List (Str × Addr)) (lo:Nat),lo<=h.objs.size->(∀x c,acc.lookup x=some c->lo<=c->h.IsCell c none)->∀x c,(cellsFrom h.objs.size names acc).lookup x=some c->lo<=c->(pushCells h names).IsCell c none
 | [],_,_,_,_,q=>q
 | (m,k)::r,h,acc,lo,hl,q=>by
  unfold cellsFrom pushCells;split
  ·have:=zIy r (h.push { cls:=.type "cell",data:=.cell none }) ((m,h.objs.size)::acc) lo (by rw[vv];lia) λx c e hc=>by
    rw[xT]at e;cases z:x == m with
    | true=>rw[z]at e;cases e;exact⟨_,xD _ rfl,rfl⟩
    | false=>rw[z]at e;exact(q x c e hc).keeps λb o e=>xm _ e
   rwa[vv]at this
  ·exact zIy r h acc lo hl q
theorem zNb{scope:Scope}{globals:Addr}{closure:List (Str × Addr)}{qual:Str}{around:Env}{Q:Env->Shared->Prop}
  (hQ:Q (newEnv scope s.heap.objs.size globals (cellsFrom (s.heap.objs.size+1) scope.names closure) qual none .none (some around) builtinsNs) { s with heap:=pushCells (s.heap.push { cls:=.type "dict",data:=.dict #[] }) scope.names }):
  wpAny M A (newFunctionEnv scope globals closure [] qual none .none (some around)) Q E s:=by
 simp only[newFunctionEnv,Option.isSome_some,xW];refine xa (wpAny_alloc ?_);refine xa (wpAny_layCells _ (λname kind cells=>by cases hkc:kind == NameKind.cell <;> simp[hkc]) _ _ _ _ ?_);rw[show({ s with heap:=s.heap.push { cls:=.type "dict",data:=.dict #[] } }:Shared).heap.objs.size=s.heap.objs.size+1 from vv ..];simp only[uw];exact xa (xg (xg hQ))
end
structure ClOk (X:Cx) (scope:Scope) (C:Addr) (cl:List (Str × Addr)):Prop where
 inj:∀x y c,cl.lookup x=some c->cl.lookup y=some c->x=y
 own:∀x c,scope.names.lookup x=some .cell->cl.lookup x=some c->C<c
 old:∀x c,scope.names.lookup x≠some .cell->cl.lookup x=some c->X.env.cells.lookup x=some c
 has:∀y∈scope.names,(y.2=.free\/y.2=.cell)->∃c,cl.lookup y.1=some c
theorem ClOk.or{X:Cx}{cl:List (Str × Addr)}(h:ClOk X scope C cl)(e:cl.lookup x=some c):X.env.cells.lookup x=some c\/C<c:=by
 by_cases q:scope.names.lookup x=some .cell
 ·exact .inr (h.own x c q e)
 ·exact .inl (h.old x c q e)
noncomputable def zDb (own:List Str) (ix:List Nat) (σ:St):St:=own.map (λ_=>none)++ix.map λi=>(σ[i]?).join
section
variable {X:Cx}{pins:List (Addr × Obj)}{σ:St}{H:Hp}{s:Shared}{own fre:List Str}{ix:List Nat}{scope:Scope}{cl:List (Str × Addr)}{fp:List Addr}{C:Addr}
theorem Inv.stkNo(I:Inv X pins σ H s)(h:FpOk X pins H b):b ∉ frs X.stack:=λhb=>
 (xr.mp (I.stkSub b hb)).elim h.2.1 h.2.2.1
theorem zWv(I:Inv X pins σ H s)(hf:∀b∈fp,FpOk X pins H b)(hlt:∀b∈fp,b<s.heap.objs.size)(S:CompScope X own fre ix scope)(hcl:ClOk X scope C cl)
  (hC:s.heap.objs.size<=C):(zAf X (own++fre) scope cl C s H fp).Ok where
 mod:=I.ok.mod
 kind:=S.kind
 glob:=I.ok.glob
 blt:=I.ok.blt
 above:=hC
 inj:=hcl.inj
 has:=λx hx=>by
  obtain⟨y,hy,e,k⟩:=zDx hx;subst e;exact hcl.has y hy k
 cab:=λx c h e=>vB (Nat.lt_of_le_of_lt hC (hcl.own x c (by simpa[zAf]using h) e))
 hd:=I.ok.hd
 frames:=I.ok.frames
 gds:=I.ok.gds
 stk:=.inl rfl
 exf:=λb hb=>⟨xy (xw (hlt b hb) hC),λx c e=>(hcl.or e).elim (λe=>(hf b hb).2.2.2.2.1 x c e) λz=>xA (xy (Nat.lt_trans (xw (hlt b hb) hC) z))⟩
 bs:=I.bs
 bsz:=xq I.ok.bsz I.sz
 noex:=λb o e hb=>by
  rcases(hf b hb).2.2.2.1 with z|z
  ·exact I.ok.noex b o e z
  ·exact absurd (xw (xn e) (xq I.ok.bsz z)) (vk _)
 exfs:=λb hb=>I.stkNo (hf b hb)
 funs:=I.stack
 frf:=I.stkFree
theorem zLq{h₁:Heap}{t':Nat}{m:Str->Option Value}(I:Inv X pins σ H s)(hf:∀b∈fp,FpOk X pins H b)(hlt:∀b∈fp,b<s.heap.objs.size)(S:CompScope X own fre ix scope)(hcl:ClOk X scope C cl)(hnew:∀x c,cl.lookup x=some c->C<c->h₁.IsCell c none)
  (hC:s.heap.objs.size<=C) (old:∀b o,s.heap.get? b=some o->h₁.get? b=some o) (hn:h₁.Ns C m):
  Inv (zAf X (own++fre) scope cl C s H fp) [] (zDb own ix σ) H { s with heap:=h₁,toks:=t' } where
 ok:=zWv I hf hlt S hcl hC
 os:=rfl
 bare:=I.bare
 base:=Un.kept old
 loc:=by
  refine⟨m,hn,λi x v e1 e2 e3=>?_⟩;obtain⟨m0,hn0,hl⟩:=I.loc;have hi:own.length<=i:=by
   rcases Nat.lt_or_ge i own.length with z|z
   ·rw[zDb,xN (by simpa using z),xO]at e2;cases q:own[i]? <;> rw[q]at e2 <;> simp at e2
   ·exact z
  have e1':(own++fre)[i]?=some x:=e1;rw[xM hi]at e1';rw[zDb,xM (by simpa using hi),xO,xp]at e2;cases q:ix[i-own.length]? with
  | none=>rw[q]at e2;simp at e2
  | some j=>
   rw[q]at e2;obtain⟨hN,hk⟩:=S.at_ _ _ _ e1' q;have e2':(σ[j]?).join=some v:=by simpa using e2
   have e4:σ[j]?=some (some v):=by
    cases z:σ[j]? with
    | none=>rw[z]at e2';cases e2'
    | some o=>rw[z]at e2';exact congrArg some e2'
   obtain⟨u,r,lk⟩:=hl j x v hN e4 (hk.elim (λz=>.inr (.inl z)) λz=>.inr (.inr z));refine⟨u,r,.inr ?_⟩;rcases lk with⟨k,_⟩|⟨k,c,ec,hc⟩
   ·rcases hk with z|z <;> · rw[k]at z;cases z
   ·have fin:((zAf X (own++fre) scope cl C s H fp).env.kindOf x=some .cell\/(zAf X (own++fre) scope cl C s H fp).env.kindOf x=some .free):=by
     exact S.vis x (vz e1')
    refine⟨fin,?_⟩;obtain⟨y,hy,e,kf⟩:=zDx fin;subst e;obtain⟨c',hc'⟩:=hcl.has y hy kf;have:=(hcl.old _ _ (S.fno _ (vz e1')) hc').symm.trans ec;cases this;exact⟨c,hc',by obtain⟨o,ho,hd⟩:=hc;exact⟨o,old _ _ ho,hd⟩⟩
 cell:=λx c e=>by
  rcases hcl.or e with q|q
  ·obtain⟨v,o,ho,hd⟩:=I.cell x c q;exact⟨v,o,old _ _ ho,hd⟩
  ·exact⟨none,hnew x c e q⟩
 free:=I.hok.fresh hC
 freeC:=λx c e=>(hcl.or e).elim (λq=>I.freeC x c q) λq=>I.hok.fresh (vB (Nat.lt_of_le_of_lt hC q))
 pin:=λp hp=>nomatch hp
 hok:=I.hok.kept old
 len:=by simp[zDb,zAf,S.len]
end
def PIfs(X:Cx)(ifs:List Expr)(t:TT):Prop:=
 ∀(pins:List (Addr × Obj)) (s:Shared) (σ:St) (H:Hp) (Q:Bool->Hp->Prop),Inv X pins σ H s->t σ H Q->
  wpAny (model X.prog X.w) X.A (forIn ifs true λc r=>if r=true then do let ok <- isTrue c X.env (eval c X.env);pure (ForInStep.yield ok)else pure (ForInStep.yield r)) (TP X pins σ Q) X.xe s
noncomputable def tYes:TT:=λ_ H Q=>Q true H
theorem zQl :PIfs X [] tYes:=λpins s σ H Q I h=>xg ⟨H,I,h⟩
theorem zQk(hc:PT X c t):PIfs X [c] t:=by intro pins s σ H Q I h;rw[ua];simp only[xW];refine xa (xa (thn (hc pins s σ H Q I h) λb s1 q=>xg ?_));simp only[uw];exact xg q
def tCompL(J:It)(g:TG)(tt:TT)(te:TE)(σc:St)(H1:Hp)(Qd:List V->Hp->Prop):Prop:=
 ∃W:Nat->Nat->List V->St->Hp->Prop,(∃m,W 0 m [] σc H1)/\∀i m ys σ H,W i m ys σ H->
  (J.stop i H/\Qd ys H)\/(J.go i H/\ys.length<sizeLine/\∃N:List V->St->Hp->Prop,(∀zs σ' H',N zs σ' H'->∃m',m'<m/\W (i+1) m' zs σ' H')/\∀x H',J.yld i H x H'->g x σ H' λσ2 H2=>tt σ2 H2 λc H3=>
   if c=true then te σ2 H3 λy H4=>N (ys++[y]) σ2 H4 else N ys σ2 H3)
structure yAz (Ok:Cx->Hp->Prop) (P:Program) (w:World) (K:PySem.W.Frag) (tg:Expr) (J:It) (fp:List Addr) (it:Addr) (tn:Nat->Heap->Prop):Prop where
 obj:∀i h,tn i h->∀b∈fp,∃o,h.get? b=some o/\∀v,o.data≠.cell v
 keep:∀i h h',tn i h->(∀b∈fp,∀o,h.get? b=some o->h'.get? b=some o)->tn i h'
 item:∀(X:Cx),X.prog=P->X.w=w->X.K=K->∀(i:Nat) (pins:List (Addr × Obj)) (s:Shared) (σ:St) (H:Hp) (E:Value->Shared->Prop),Ok X H->Inv X pins σ H s->(∀b∈fp,FpOk X pins H b)->tn i s.heap->J.go i H->
  wpAny (model P w) X.A (pyNext (.ref it)) (λr s1=>∃u,r=some u /\
   wpAny (model P w) X.A (letOwnedTupleGo tg (.ref it) u) (λ_ s2=>∃x H',Inv X pins σ H' s2/\RelV x u/\J.yld i H x H'/\tn (i+1) s2.heap/\∀b∈fp,H' b=none) E s1) E s
 done:∀(X:Cx),X.prog=P->X.w=w->X.K=K->∀(i:Nat) (pins:List (Addr × Obj)) (s:Shared) (σ:St) (H:Hp) (E:Value->Shared->Prop),Ok X H->Inv X pins σ H s->(∀b∈fp,FpOk X pins H b)->tn i s.heap->J.stop i H->
  wpAny (model P w) X.A (pyNext (.ref it)) (λr s1=>r=none/\Inv X pins σ H s1) E s
 self:∀(A:Around) (i:Nat) (s:Shared) (Q:Value->Shared->Prop) (E:Value->Shared->Prop),tn i s.heap->Q (.ref it) s->wpAny (model P w) A (pyIter (.ref it)) Q E s
theorem Turn.g{P:Program}{w:World}{K:PySem.W.Frag}{tg:Expr}{J:It}{fp:List Addr}{it:Addr}{tn:Nat->Heap->Prop}(T:Turn P w K tg J fp it tn):yAz (λX _=>X.calm=true) P w K tg J fp it tn:=
 ⟨T.obj,T.keep,λX h1 h2 h3 i pins s σ H E hc=>T.item X h1 h2 h3 hc i pins s σ H E,λX h1 h2 h3 i pins s σ H E hc=>T.done X h1 h2 h3 hc i pins s σ H E,T.self⟩
def zSb(Ok:Hp->Prop)(J:It)(g:TG)(tt:TT)(te:TE)(σc:St)(H1:Hp)(Qd:List V->Hp->Prop):Prop:=
 ∃W:Nat->Nat->List V->St->Hp->Prop,(∃m,W 0 m [] σc H1)/\∀i m ys σ H,W i m ys σ H->Ok H /\
  ((J.stop i H/\Qd ys H)\/(J.go i H/\ys.length<sizeLine/\∃N:List V->St->Hp->Prop,(∀zs σ' H',N zs σ' H'->∃m',m'<m/\W (i+1) m' zs σ' H')/\∀x H',J.yld i H x H'->g x σ H' λσ2 H2=>tt σ2 H2 λc H3=>
   if c=true then te σ2 H3 λy H4=>N (ys++[y]) σ2 H4 else N ys σ2 H3))
theorem tCompL.g{Ok:Hp->Prop}{J:It}{g:TG}{tt:TT}{te:TE}{σc:St}{H1:Hp}{Qd:List V->Hp->Prop}(h:tCompL J g tt te σc H1 Qd)(k:∀H,Ok H):zSb Ok J g tt te σc H1 Qd:=by obtain⟨W,h0,h1⟩:=h;exact⟨W,h0,λi m ys σ H w=>⟨k H,h1 i m ys σ H w⟩⟩
theorem HOk.adopt{H:Hp}(x:HOk P w H h)(n:H D=none)(new:ObjOk P w (upd H D o) h D o):HOk P w (upd H D o) h:=λb u e=>by
 by_cases hb:b=D
 ·subst hb;rw[zAb]at e;cases e;exact new
 ·rw[zA9 hb]at e;refine(x b u e).stay (λc v _ q=>q) (λc q=>?_) λc xs q=>?_
  ·rw[zA9 (zAe q n)];exact q
  ·rw[zA9 (zAe q n)];exact q
theorem Un.adopt{H':Hp}{h:Heap}(u:Un fs ex H H' h h')(hD:h.objs.size<=D)(n:H' D=none):Un fs ex H (upd H' D o) h h' where
 keep:=u.keep
 slot:=u.slot
 free:=λb ob e n' hx=>by rw[zA9 (xy (xw (xn e) hD))];exact u.free b ob e n' hx
 there:=u.there
 tups:=λb xs e=>by have:=u.tups b xs e;rw[zA9 (zAe this n)];exact this
 frzs:=λb ob xs e=>by have:=u.frzs b ob xs e;rw[zA9 (zAe this n)];exact this
 tbls:=λb ps e=>by obtain⟨m,z⟩:=u.tbls b ps e;exact⟨m,by rw[zA9 (zAe z n)];exact z⟩
section
variable {X:Cx}{pins:List (Addr × Obj)}{σ:St}{H2:Hp}{s2:Shared}{own fre:List Str}{ix:List Nat}{scope:Scope}{cl:List (Str × Addr)}{fp:List Addr}{C:Addr}
theorem zFo{tg elt iter:Expr}{ifs:List Expr}{pos:Pos}{J:It}{it:Addr}{tn:Nat->Heap->Prop}{g:TG}{tt:TT}{te:TE}{Qd:List V->Hp->Prop}{RR:Value->Addr->Result->Shared->Prop}{E:Value->Shared->Prop}{cl0:List (Str × Addr)}
  {Ok:Cx->Hp->Prop}(I2:Inv X pins σ H2 s2) (T:yAz Ok X.prog X.w X.K tg J fp it tn) (st2:tn 0 s2.heap) (f2:∀b∈fp,FpOk X pins H2 b) (S:CompScope X own fre ix scope)
  (hcl0:∀x c,cl0.lookup x=some c->X.env.cells.lookup x=some c) (hcf0:∀y∈scope.names,y.2=.free->∃c,cl0.lookup y.1=some c)
  (hg:∀cl C,PG (zAf X (own++fre) scope cl C s2 H2 fp) tg g) (hi:∀cl C,PIfs (zAf X (own++fre) scope cl C s2 H2 fp) ifs tt) (he:∀cl C,PE (zAf X (own++fre) scope cl C s2 H2 fp) elt te)
  (q:∀cl C,zSb (Ok (zAf X (own++fre) scope cl C s2 H2 fp)) J g tt te (zDb own ix σ) H2 Qd)
  (hRR:∀D C s' m' ys H',Inv X pins σ (upd H' D (.lst ys)) s'->s'.heap.Ns C m'->FpOk X pins (upd H' D (.lst ys)) C->H' D=none->Qd ys H'->RR (.ref D) C (.ok .next) s'):
  wpAny (model X.prog X.w) X.A (newList []) (λacc s₃=>wpAny (model X.prog X.w) X.A (newFunctionEnv scope X.env.globals cl0 [] X.env.qual none .none (some X.env)) (λcenv s₄=>
   codeAny (model X.prog X.w) X.A (.compStart (.ListComp elt [⟨tg,iter,ifs,0⟩] scope pos) 0 (.ref it) acc { cenv with scope:=relabel scope X.env }) (RR acc cenv.locals) s₄) E s₃) E s2:=by
 refine vq (zNb ?_);dsimp only;generalize hHH:s2.heap.push { cls:=.type "list",dict:=none,data:=.seq ([]:List Value).toArray }=HH;have hC:HH.objs.size=s2.heap.objs.size+1:=by rw[<- hHH,vv]
 have hns₁:(pushCells (HH.push { cls:=.type "dict",data:=.dict #[] }) scope.names).Ns HH.objs.size λ_=>none:=(Heap.Ns.new HH (.type "dict")).keeps (pushCells_keeps _ _)
 have hkp:∀b o,HH.get? b=some o->(pushCells (HH.push { cls:=.type "dict",data:=.dict #[] }) scope.names).get? b=some o:=λb o e=>pushCells_keeps _ _ b o (xm _ e)
 have hltc:∀x c,cl0.lookup x=some c->c<HH.objs.size+1:=λx c e=>by
  obtain⟨v,o,ho,_⟩:=I2.cell x c (hcl0 x c e);rw[hC];exact Nat.lt_succ_of_lt (Nat.lt_succ_of_lt (xn ho))
 have hnew:∀x c,(cellsFrom (HH.objs.size+1) scope.names cl0).lookup x=some c->HH.objs.size<c->(pushCells (HH.push { cls:=.type "dict",data:=.dict #[] }) scope.names).IsCell c none:=by
  have:=zIy scope.names (HH.push { cls:=.type "dict",data:=.dict #[] }) cl0 (HH.objs.size+1) (by rw[vv];exact xh _) λx c e hc=>absurd (xw (hltc x c e) hc) (vk _)
  rw[vv]at this;exact λx c e h=>this x c e h
 have hcl:ClOk X scope HH.objs.size (cellsFrom (HH.objs.size+1) scope.names cl0):={
  inj:=zOz _ _ _ hltc λx y c e1 e2=>I2.ok.inj x y c (hcl0 x c e1) (hcl0 y c e2)
  own:=λx c h e=>zOx _ _ _ x c (xh _) (.inl (uo h)) e
  old:=λx c h e=>by
   rw[zOy _ _ _ x λy hy ex ec=>h (by rw[<- ex];exact S.cell y hy ec)]at e;exact hcl0 x c e
  has:=λy hy hk=>by
   obtain⟨n,k⟩:=y;rcases hk with hk|hk
   ·exact zGm _ _ _ _ (.inr (hcf0 _ hy hk))
   ·dsimp only at hk;subst hk;exact zGm _ _ _ _ (.inl hy) }
 generalize cellsFrom (HH.objs.size+1) scope.names cl0=cl at hnew hcl ⊢;generalize pushCells (HH.push { cls:=.type "dict",data:=.dict #[] }) scope.names=h₁ at hns₁ hkp hnew ⊢;generalize hDe:s2.heap.objs.size=D at *;generalize hCe:HH.objs.size=C at *;have hDC:D≠C:=by nofun
 have hDle:s2.heap.objs.size<=D:=by nofun
 have hCle:s2.heap.objs.size<=C:=by nofun
 have below:∀b o,s2.heap.get? b=some o->b≠C/\b≠D:=λb o e=>⟨xy (xw (xn e) hCle),xy (xw (xn e) hDle)⟩
 have old:∀b o,s2.heap.get? b=some o->h₁.get? b=some o:=λb o e=>hkp b o (hHH ▸ xm _ e)
 have hacc:=hkp _ _ (hHH ▸ hDe ▸ xD _ rfl);have fpo:=T.obj _ _ st2;have hlt:∀b∈fp,b<s2.heap.objs.size:=λb hb=>by obtain⟨o,e,_⟩:=fpo b hb;exact xn e
 have hDf:D ∉ fp:=λhm=>absurd (xw (hlt D hm) hDle) (vk _)
 have hcD:∀x c,cl.lookup x=some c->c≠D:=λx c e z=>by
  rcases hcl.or e with q|q
  ·obtain⟨v,o,ho,_⟩:=I2.cell x c q;exact(below c o ho).2 z
  ·exact absurd (xw q (by rw[z,hC];exact ub _)) (vk _)
 let Xc:=zAf X (own++fre) scope cl C s2 H2 fp
 obtain⟨W,⟨m0,w0⟩,turn⟩:=q cl C;have hnoS:∀b,s2.heap.objs.size<=b->b ∉ frs X.stack:=λb hb z=>by
  rcases xr.mp (I2.stkSub b z)with z|z
  ·exact absurd (xw I2.lt hb) (by rw[z];exact vk _)
  ·exact I2.nofs hb z
 have loop:∀t',codeAny (model X.prog X.w) X.A (.compLoop (.ListComp elt [⟨tg,iter,ifs,0⟩] scope pos) 0 (.ref it) (.ref D) (compEnvC scope cl C X.env)) (RR (.ref D) C) { s2 with heap:=h₁,toks:=t' }:=by
  intro t';have I4:Inv Xc [] (zDb own ix σ) H2 { s2 with heap:=h₁,toks:=t' }:=zLq I2 f2 hlt S hcl hnew hCle old hns₁;refine zHj (λn s'=>∃i ys σ' H' its k,Inv Xc [] σ' H' s'/\tn i s'.heap/\(∀b∈fp,H' b=none)/\H' D=none/\s'.heap.get? D=some ({ cls:=.type "list",data:=.seq (List.toArray its) k }:Obj)/\Vals ys its/\ys.length<=sizeLine/\W i n ys σ' H')
   ?_ m0 ⟨0,[],_,H2,[],_,I4,T.keep _ _ _ st2 (λb _ o e=>old b o e),λb hb=>(f2 b hb).1,I2.hok.fresh hDle,hacc,.nil,vN _,w0⟩
  rintro n s3 ⟨i,ys,σ3,H3,its,k,I3,st3,fr3,hD3,ho3,hv3,hz3,w3⟩;have I3p:Inv Xc [(D,{ cls:=.type "list",data:=.seq (List.toArray its) k })] σ3 H3 s3:=I3.pins_of λp hp=>by
   have e:p=(D,({ cls:=.type "list",data:=.seq (List.toArray its) k }:Obj)):=by simpa using hp
   subst e;exact⟨ho3,hD3,hDC,hnoS D hDle,λv z=>by cases z⟩
  have stat:∀{H':Hp},(∀b∈fp,H' b=none)->∀b∈fp,FpOk Xc [(D,({ cls:=.type "list",data:=.seq (List.toArray its) k }:Obj))] H' b:=λhn b hb=>
   ⟨hn b hb,xy (xw (hlt b hb) hCle),I2.stkNo (f2 b hb),.inl hb,λx c e=>(hcl.or e).elim (λe=>(f2 b hb).2.2.2.2.1 x c e) λz=>xA (xy (Nat.lt_trans (xw (hlt b hb) hCle) z)),λp hp z=>by
    have e:p=(D,({ cls:=.type "list",data:=.seq (List.toArray its) k }:Obj)):=by simpa[Xc,zAf]using hp
    rw[e]at z;exact hDf (by rw[show D=b from z];exact hb)⟩
  obtain⟨ok3,turn3⟩:=turn i n ys σ3 H3 w3;rcases turn3 with⟨stop,qn⟩|⟨go,hys,N,hN,step⟩
  ·refine thn (T.done Xc rfl rfl rfl i _ s3 σ3 H3 _ ok3 I3p (stat fr3) st3 stop) λr s4 hq1=>?_
   obtain⟨hr,I4⟩:=hq1;subst hr;have ho4:=(I4.pin (D,_) (xI _ vx)).1;obtain⟨m',hn',_⟩:=I4.loc;have un:Un (frs X.stack) fp H2 (upd H3 D (.lst ys)) s2.heap s4.heap:=Un.adopt (I4.base) hDle hD3;have hok:HOk X.prog X.w (upd H3 D (.lst ys)) s4.heap:=HOk.adopt (I4.hok) hD3 ⟨hz3,its,_,hv3,ho4⟩;have IX:=I2.call' I4.os un hok I4.bare λb hb=>⟨(f2 b hb).2.2.2.1,(f2 b hb).2.1,(f2 b hb).2.2.2.2.1,(f2 b hb).2.2.2.2.2⟩
   exact hRR D C s4 m' ys H3 IX hn' (I2.fpOk hCle (by rw[zA9 (xA hDC)];exact I4.free)) hD3 qn
  ·refine thn (T.item Xc rfl rfl rfl i _ s3 σ3 H3 _ ok3 I3p (stat fr3) st3 go) λr s4 hq1=>?_
   obtain⟨u,hr,h4⟩:=hq1;subst hr;refine thn h4 λ_ s5 hq1=>?_
   obtain⟨x,H5,I5,r5,y5,st5,fr5⟩:=hq1;have I5':=I5.pinned (stat fr5) (T.obj _ _ st5);refine thn (hg cl C _ s5 σ3 H5 x u _ I5' r5 (step x H5 y5)) λ_ s6 hq1=>?_
   obtain⟨σ6,H6,I6,q6⟩:=hq1;refine thn (hi cl C _ s6 σ6 H6 _ I6 q6) λb s7 hq1=>?_
   obtain⟨H7,I7,q7⟩:=hq1;have keepT:∀{σ7:St}{H7:Hp}{s7:Shared}{h':Heap},Inv Xc ([(D,({ cls:=.type "list",data:=.seq (List.toArray its) k }:Obj))]++zH4 fp s5.heap) σ7 H7 s7->(∀b o,b≠D->s7.heap.get? b=some o->h'.get? b=some o)->tn (i+1) h'/\∀b∈fp,H7 b=none:=λ{σ7 H7 s7 h'} I7 hk=>by
    refine⟨T.keep _ _ _ st5 λb hb o e=>hk b o (λz=>hDf (z ▸ hb)) (I7.pin (b,o) (xI _ (xI _ (zD1 hb e)))).1,λb hb=>?_⟩;obtain⟨o,e,d⟩:=T.obj _ _ st5 b hb;exact(I7.pin (b,o) (xI _ (xI _ (zD1 hb e)))).2.1
   cases b with
   | false=>
    obtain⟨m',hm,w7⟩:=hN _ _ _ q7;obtain⟨t7,f7⟩:=keepT I7 λ_ _ _ e=>e
    have pD:=I7.pin (D,_) (xI _ (vf _ vx));exact⟨m',hm,i+1,ys,σ6,H7,its,k,I7.pins_of (λp hp=>nomatch hp),t7,f7,pD.2.1,pD.1,hv3,hz3,w7⟩
   | true=>
    refine thn (he cl C _ s7 σ6 H7 _ I7 q7) λy s8 hq1=>?_
    obtain⟨v,H8,I8,r8,n8⟩:=hq1;obtain⟨m',hm,w8⟩:=hN _ _ _ n8;have pD:=I8.pin (D,_) (xI _ (vf _ vx));have hsz:its.toArray.size<=sizeLine:=by rw[xu,<- hv3.length];exact hz3
    refine wpAny_list_append_plain (show s8.heap.PlainList D its.toArray from⟨_,pD.1⟩) λh₅ hl₅ hs₅=>?_
    obtain⟨t8,f8⟩:=keepT I8 λb o hb e=>hs₅.extBut b o hb e
    obtain⟨k',ho5⟩:=hl₅;have I9:=(I8.pins_of (pins':=[]) (λp hp=>nomatch hp)).turned (t':=s8.toks) (λb o hb e=>hs₅.extBut b o hb e) pD.2.1 hDC (.inr hDle) hcD λp hp=>nomatch hp
    refine⟨m',hm,i+1,ys++[v],σ6,H8,its++[y],k',I9,t8,f8,pD.2.1,?_,hv3.append (.cons r8 .nil),(by rw[xk,xG];exact hys),w8⟩;show h₅.get? D=_;rw[ho5];simp
 exact codeAny_compStart_list (loop _) (T.self _ 0 _ _ _ (T.keep _ _ _ st2 (λb _ o e=>old b o e)) (loop _))
end
noncomputable def zIb (own:List Str) (ix:List Nat) (wi:TI) (g:TG) (tt:TT) (te:TE):TE:=λσ H Q=>wi σ H λJ H1=>
 tCompL J g tt te (zDb own ix σ) H1 λys H2=>∀D,H2 D=none->Q (.ref D) (upd H2 D (.lst ys))
section
variable {X:Cx}{own fre:List Str}{ix:List Nat}{scope:Scope}
theorem zQr{elt:Expr}{ifs:List Expr}{pos:Pos}{g:TG}{tt:TT}{te:TE}(hc:X.calm=true)(S:CompScope X own fre ix scope)(hi:PI X tg iter wi)
  (hg:∀cl C s H fp,PG (zAf X (own++fre) scope cl C s H fp) tg g) (ht:∀cl C s H fp,PIfs (zAf X (own++fre) scope cl C s H fp) ifs tt) (he:∀cl C s H fp,PE (zAf X (own++fre) scope cl C s H fp) elt te)
  (hs:∀x,foldedSetIterable iter X.env x=pure x:=by intro _;rfl):PE X (.ListComp elt [⟨tg,iter,ifs,0⟩] scope pos) (zIb own ix wi g tt te):=by
 intro pins s σ H Q I h;obtain⟨cl,ecl,hcl,hcf⟩:=zDq λy hy hf=>I.ok.has y.1 (S.fr y hy hf)
 rw[eval_ListComp];refine wpAny_comprehension_free rfl hs ecl S.kind S.loc (thn (hi pins s σ H _ I h) λv s1 h1=>thn h1 λy s2 h2=>?_);obtain⟨it,fp,tn,J,H2,e,I2,T,st2,f2,q⟩:=h2;subst e;refine zFo I2 T.g st2 f2 S hcl hcf (λcl C=>hg _ _ _ _ _) (λcl C=>ht _ _ _ _ _) (λcl C=>he _ _ _ _ _) (λcl C=>q.g λ_=>hc) ?_;intro D C s' m' ys H' IX hn fC hD qd;refine⟨m',hn,λh' hs'=>?_⟩;exact⟨.ref D,_,IX.turned (λb o hb e=>hs'.extBut b o hb e) fC.1 fC.2.1 fC.2.2.2.1 fC.2.2.2.2.1 fC.2.2.2.2.2,rfl,qd D hD⟩
theorem zUf{i:Nat}{pos':Pos}{tg elt iter:Expr}{ifs:List Expr}{pos cpos:Pos}{wi:TI}{g:TG}{tt:TT}{te:TE}(hN:X.N.Nodup)(hix:X.N[i]?=some x)(hx:Loc X.env.scope x)
  (hc:X.calm=true) (S:CompScope X own fre ix scope) (hi:PI X tg iter wi)
  (hg:∀cl C s H fp,PG (zAf X (own++fre) scope cl C s H fp) tg g) (ht:∀cl C s H fp,PIfs (zAf X (own++fre) scope cl C s H fp) ifs tt) (he:∀cl C s H fp,PE (zAf X (own++fre) scope cl C s H fp) elt te)
  (hsw:swapsWith (.ListComp elt [⟨tg,iter,ifs,0⟩] scope cpos) (some (.Name x pos')) pos.line X.env=pure true:=by rfl)
  (hs:∀x,foldedSetIterable iter X.env x=pure x:=by intro _;rfl) (hf:X.fn x=true\/X.env.scope.names.lookup x=some .local:=by first|exact .inl rfl|exact .inr rfl|assumption):
  PS X (.Assign [.Name x pos'] (.ListComp elt [⟨tg,iter,ifs,0⟩] scope cpos) pos) (tAsg (zIb own ix wi g tt te) (gName i)):=by
 intro pins s σ H D I h;obtain⟨cl,ecl,hcl,hcf⟩:=zDq λy hy hf=>I.ok.has y.1 (S.fr y hy hf)
 rw[exec_Assign_Name_used _ _ _ _ hsw];refine xa (uj (xa ?_));show wpAny _ X.A (do let _ <- comprehension (.ListComp elt [⟨tg,iter,ifs,0⟩] scope cpos) scope X.env _ (newList []) false (eval iter X.env) (some (assign (.Name x pos') X.env))) _ _ s;refine xa (vd (wpAny_comprehension_free rfl hs ecl S.kind S.loc
  (thn (hi pins s σ H _ I h) λv s1 h1=>thn h1 λy s2 h2=>?_)) (λ_ s' hq=>xg (xg hq)) λ_ _ e=>e)
 obtain⟨it,fp,tn,J,H2,e,I2,T,st2,f2,q⟩:=h2;subst e;refine zFo I2 T.g st2 f2 S hcl hcf (λcl C=>hg _ _ _ _ _) (λcl C=>ht _ _ _ _ _) (λcl C=>he _ _ _ _ _) (λcl C=>q.g λ_=>hc) ?_;intro D' C s' m' ys H' IX hn fC hD qd;show wpAny _ X.A (assign (.Name x pos') X.env (.ref D')) _ _ _;refine wpAny_assign_Name (zDf (v:=.ref D') IX hN hix hx rfl (λs'' I'' hsb=>?_) hf);obtain⟨a,hsb,ha⟩:=hsb;have hCa:C≠a:=by
  rcases ha with z|z
  ·rw[z];exact fC.2.1
  ·exact xA (fC.2.2.2.2.1 x a z)
 refine⟨m',hn.sameBut hsb hCa,λh' hs'=>?_⟩;exact⟨_,_,I''.turned (λb o hb e=>hs'.extBut b o hb e) fC.1 fC.2.1 fC.2.2.2.1 fC.2.2.2.2.1 fC.2.2.2.2.2,qd D' hD⟩
end
end L2
namespace LX
open PySem
open Sem (wp)
theorem zR4:typeLookup (.type "list_reverseiterator") "__len__"=pure none:=by rw[typeLookup_type,uU];kernel_rfl
theorem zVz:typeLookup (.type "list_reverseiterator") "__length_hint__"=pure (some (.builtin "list_reverseiterator.__length_hint__")):=by rw[typeLookup_type,uU];kernel_rfl
section
variable {prog:Program}{w:World}{A:Around}{E:Value->Shared->Prop}{s:Shared}
theorem zLi{R:Result->Shared->Prop}{items:Array Value}(hh:A.handled=none)(hne:l≠I)(hit:s.heap.IsRevIter I l ((items.size:Int)-1))(hl:s.heap.IsList l items)
  (S:Addr) (res:Value) (c₀:Nat) (hSI:S≠I) (hSl:S≠l) (hS:s.heap.get? S=some { cls:=.type "list",data:=.seq #[] c₀ }) (hn:items.size<=sizeLine)
  (hR:∀h' tk acc' c',(∀b o,b≠S->b≠I->s.heap.get? b=some o->h'.get? b=some o)->h'.get? S=some { cls:=.type "list",dict:=none,data:=.seq acc' c',slots:=#[] }->
   ItemsOf (λi v=>items[items.size-1-i]?=some v) acc' items.size->R (.ok (.ret res)) { s with heap:=h',toks:=tk }):
  wpAny (model prog w) A.in1 (Builtin.List.listExtendWith (.ref S) (.ref I) res)
   (λfin s'=>match fin with|.done f=>R (.ok f) s'|.again c'=>c'.quiet=true/\codeAny (model prog w) A c' R s') (λe s'=>R (.error e) s') s:=by
 have W:=(Walks.listRev (prog:=prog) (w:=w) (A:=A.in1) hh I l hne items).toS;have st:0<=items.size/\s.heap.IsRevIter I l ((items.size:Int)-1-((0:Nat):Int))/\s.heap.IsList l items:=⟨vN _,by simpa using hit,hl⟩;have hT:=hit.typeIs;have hSf:S ∉ [I,l]:=λhm=>by
  rcases xr.mp hm with z|z
  ·exact hSI z
  ·exact hSl (xx.mp z)
 have h1:Builtin.List.listSameRef (.ref S) (.ref I)=false:=by simp[Builtin.List.listSameRef,hSI]
 unfold Builtin.List.listExtendWith;refine xa (v7 hT ?_);rw[xf (by rw[h1];decide)];refine xa (wpAny_pyIter_revIter hit ?_);refine xa (xS ?_);unfold Builtin.List.listLengthHint;refine xa (uE hT zR4 ?_);show wpAny _ A.in1 (specialOf (Value.ref I) (Str.ofString "__length_hint__") >>= _) _ _ _;refine xa (uE hT zVz ?_)
 (generalize hid:("list_reverseiterator.__length_hint__":String)=id0;(fail_if_success (clear hid id0));wp_delta;rw[show splitId id0=some ("list_reverseiterator","__length_hint__")from by subst hid;decide +kernel];subst hid)
 refine xa (uF (b:=true) hT (by rw[isSubtype_type];kernel_rfl) ?_);refine xg ?_;rw[xf (by decide)];refine xg ⟨plainId_quiet uG _,codeAny_extend_loopS W hn _ hSf _ items.size 0 _ _ _ rfl (vN _) st hS (ItemsOf.nil _) λs' acc' c' hm hS' hacc=>?_⟩;rw[Moved.eq_with hm];refine hR s'.heap s'.toks acc' c' (λb o hb hb' e=>hm.heap b o (λhmem=>?_) e) hS' hacc;rcases xr.mp hmem with z|z
 ·exact hb z
 ·exact hb' (xx.mp z)
theorem zRi{R:Result->Shared->Prop}{items:Array Value}(hh:A.handled=none)(hne:l≠I)(hit:s.heap.IsRevIter I l ((items.size:Int)-1))(hl:s.heap.IsList l items)
  (S:Addr) (hSI:S≠I) (hSl:S≠l) (hS:s.heap.get? S=some { cls:=.type "list",data:=.seq #[] }) (hn:items.size<=sizeLine)
  (hR:∀h' tk acc' c',(∀b o,b≠S->b≠I->s.heap.get? b=some o->h'.get? b=some o)->h'.get? S=some { cls:=.type "list",dict:=none,data:=.seq acc' c',slots:=#[] }->
   ItemsOf (λi v=>items[items.size-1-i]?=some v) acc' items.size->R (.ok (.ret .none)) { s with heap:=h',toks:=tk }):
  wpAny (model prog w) A.in1 (Builtin.«list.__init__» ⟨[.ref S,.ref I],[]⟩)
   (λfin s'=>match fin with|.done f=>R (.ok f) s'|.again c'=>c'.quiet=true/\codeAny (model prog w) A c' R s') (λe s'=>R (.error e) s') s:=by
 show wpAny _ A.in1 (do let old <- Builtin.List.listItems (.ref S);Builtin.List.listUpdate (.ref S) (λ_=>#[]);letGo old.toList.reverse;Builtin.List.listExtendWith (.ref S) (.ref I) .none) _ _ s;refine xa ?_;unfold Builtin.List.listItems;refine xa (vw hS rfl (xg ?_));show wpAny _ A.in1 (updateSeq S (λ_=>#[]) >>= λ_=>letGo (#[]:Array Value).toList.reverse >>= λ_=>Builtin.List.listExtendWith (.ref S) (.ref I) .none) _ _ s;refine xa (uH hS rfl ?_);have hS₂:=vF (Obj.mapSeq (λ_=>(#[]:Array Value))) hS rfl;have oth:∀b o,b≠S->s.heap.get? b=some o->(s.heap.update S (Obj.mapSeq (λ_=>(#[]:Array Value)))).get? b=some o:=
  λb o hb e=>(vh _ _ (xA hb)).trans e
 refine xa (wpAny_letGo ?_);refine zLi hh hne (hit.at λo e=>oth I o (xA hSI) e) (hl.at λo e=>oth l o (xA hSl) e) S .none _ hSI hSl hS₂ hn λh' tk acc' c' hk hS' hacc=>?_
 exact hR h' tk acc' c' (λb o hb hb' e=>hk b o hb hb' (oth b o hb e)) hS' hacc
theorem call_list_rev{Q:Value->Shared->Prop}{items:Array Value}(hh:A.handled=none)(hne:l≠I)(hit:s.heap.IsRevIter I l ((items.size:Int)-1))(hl:s.heap.IsList l items)(hn:items.size<=sizeLine)
  (hQ:∀h' tk acc' c',(∀b o,b≠I->s.heap.get? b=some o->h'.get? b=some o)->h'.get? s.heap.objs.size=some { cls:=.type "list",dict:=none,data:=.seq acc' c',slots:=#[] }->
   ItemsOf (λi v=>items[items.size-1-i]?=some v) acc' items.size->Q (.ref s.heap.objs.size) { s with heap:=h',toks:=tk }):wpAny (model prog w) A (call (.type "list") [.ref I]) Q E s:=by
 refine callType_codes (Q₁:=λobj s₁=>obj=.ref s.heap.objs.size/\s₁={ s with heap:=s.heap.push { cls:=.type "list",data:=.seq #[] } }) F.called_list (F.typeCall_list_1 _) F.entry_list_init
  (code_list_new _ ⟨rfl,rfl⟩) λobj s₁ h₁=>?_
 obtain⟨rfl,rfl⟩:=h₁;have hS:(s.heap.push { cls:=.type "list",data:=.seq #[] }).get? s.heap.objs.size=some { cls:=.type "list",data:=.seq #[] }:=xD _ rfl;have nI:s.heap.objs.size≠I:=by obtain⟨o,ho,_⟩:=hit;exact xA (xy (xn ho))
 have nl:s.heap.objs.size≠l:=by obtain⟨o,ho,_⟩:=hl;exact xA (xy (xn ho))
 refine⟨⟨_,hS,rfl⟩,F.args_list_init_2 _ _,zRi (A:=A.in1) hh hne (hit.at λo e=>xm _ e) (hl.at λo e=>xm _ e) _ nI nl hS hn λh' tk acc' c' hk hS' hacc=>?_⟩;exact⟨rfl,hQ h' tk acc' c' (λb o hb e=>hk b o (xy (xn e)) hb (xm _ e)) hS' hacc⟩
end
end LX
namespace L2
open PySem PySem.Spec PyProof.Rows
section
variable {X:Cx}
noncomputable def zFx (K:PySem.W.Frag) (te:TE):TE:=λσ H Q=>te σ H λx H1=>∃a xs,x=.ref a/\SqL K H1 a xs/\∀l,H1 l=none->Q (.ref l) (upd H1 l (.lst xs.reverse))
theorem zIa{its:List Value}{acc:Array Value}(r:Vals xs its)(h:ItemsOf (λi v=>its.toArray[its.toArray.size-1-i]?=some v) acc its.toArray.size):acc.toList=its.reverse:=by
 obtain⟨hs,hi⟩:=h;have hs':acc.size=its.length:=by simpa using hs
 refine uI λj=>?_
 rcases Nat.lt_or_ge j its.length with hj|hj
 ·have e1:acc[j]?=some (acc[j]'(by nofun)):=Array.getElem?_eq_getElem (by nofun);have e2:=hi j _ e1;rw[Array.getElem?_toList,e1,List.getElem?_reverse hj,<- e2];simp
 ·rw[x6 (by simpa[hs']using hj),x6 (by simpa using hj)]
theorem zL1{p p2 pos pos2:Pos}(hc:X.calm=true)(he:PE X e te)(hgl:Gl X "list")(hml:X.mg "list"=none)(hgr:Gl X "reversed")(hmr:X.mg "reversed"=none)
  (hs:starEach [e] X.env=[(false,eval e X.env)]:=by rfl)
  (hs2:starEach [Expr.Call (.Name "reversed" p2) [e] [] pos2] X.env=[(false,eval (.Call (.Name "reversed" p2) [e] [] pos2) X.env)]:=by rfl):
  PE X (.Call (.Name "list" p) [.Call (.Name "reversed" p2) [e] [] pos2] [] pos) (zFx X.K te):=by
 intro pins s σ H Q I h;refine vZ (zE0 I hgl hml PyProof.Rows.boot_list ?_);refine uk ?_ hs2 rfl;rw[hs2];show wpAny _ _ (spliced ((false,eval (.Call (.Name "reversed" p2) [e] [] pos2) X.env)::backTo pos [])) _ _ s;refine vL ?_;refine vZ (zE0 I hgr hmr PyProof.Rows.boot_reversed ?_);refine uk ?_ hs rfl;rw[hs];show wpAny _ _ (spliced ((false,eval e X.env)::backTo pos2 [])) _ _ s;refine vL (thn (he pins s σ H _ I h) λu s1 hq1=>?_);obtain⟨x,H1,I1,r1,a,xs,ex,hq,q⟩:=hq1;subst ex;cases r1;refine um ?_;obtain⟨its,rv,pl,hz⟩:=I1.list hq;refine call_reversed_list pl.isList ?_;refine um ?_;have I2:Inv X pins σ H1 { s1 with heap:=s1.heap.push (revObj a ((its.toArray.size:Int)-1)) }:=I1.kept λb o e=>xm _ e
 have hne:a≠s1.heap.objs.size:=by obtain⟨o,ho,_⟩:=pl.isList;exact xy (xn ho)
 refine LX.call_list_rev (I.ok.hd hc) hne ⟨_,xD _ rfl,rfl,rfl⟩ (pl.isList.at λo e=>xm _ e) (by simpa[<- rv.length]using hz) λh' tk acc c kp ho hi=>?_
 have hfr:=I1.hok.fresh (xh _);have fp:=I1.fpOk (xh _) hfr;have I3:=Inv.turned (t':=tk) I2 (λb o hb e=>kp b o hb e) fp.1 fp.2.1 fp.2.2.2.1 fp.2.2.2.2.1 fp.2.2.2.2.2;generalize hDD:(s1.heap.push (revObj a ((its.toArray.size:Int)-1))).objs.size=D at ho ⊢;have hD:H1 D=none:=by rw[<- hDD];exact I2.hok.fresh (xh _)
 have fD:=I2.fpOk (by rw[<- hDD];exact xh _) hD;have e1:=zIa rv hi;have ho':h'.get? D=some { cls:=.type "list",dict:=none,data:=.seq (its.reverse).toArray c,slots:=#[] }:=by rw[ho,<- e1]
 have hok:HOk X.prog X.w (upd H1 D (.lst xs.reverse)) h':=HOk.adopt I3.hok hD ⟨by rw[vS];exact hz,_,_,rv.reverse,ho'⟩;have I4:Inv X pins σ (upd H1 D (.lst xs.reverse)) { s1 with heap:=h',toks:=tk }:=by
  refine Inv.call' (ch:=[s1.heap.objs.size]) I2 rfl ?_ hok I3.bare λb hb=>?_
  ·have ne:∀b,b ∉ [s1.heap.objs.size]->b≠s1.heap.objs.size:=λb hb z=>hb (by simp[z])
   exact⟨λb o e _ _ hx=>kp b o (ne b hx) e,λb o e _ _ hx=>⟨o.slots,kp b o (ne b hx) e⟩,λb o e n _=>by
     rw[zA9 (xy (xw (xn e) (by rw[<- hDD];exact xh _)))];exact n,λb o e hx=>⟨o,kp b o (ne b hx) e⟩,
    λb ys e=>by rw[zA9 (zAe e hD)];exact e,λb o u e=>by rw[zA9 (zAe e hD)];exact e,λb ps e=>⟨#[],by rw[zA9 (zAe e hD),e];simp⟩⟩
  ·have e:b=s1.heap.objs.size:=by simpa using hb
   subst e;exact⟨fp.2.2.2.1,fp.2.1,fp.2.2.2.2.1,fp.2.2.2.2.2⟩
 exact⟨.ref D,_,I4,rfl,q D hD⟩
theorem zFu{bs:List Bool}{its:List Value}(r:Vals (bs.map V.bl) its):TruthOf P w A (λi v=>its.toArray[i]?=some v) (λi=>bs.getD i false):=by
 intro i v s Q E hv hq;have hv':its[i]?=some v:=by simpa using hv
 have hlt:=(xC.mp hv').1;have hl:=r.length;rw[xp]at hl;have hb:(bs.map V.bl)[i]?=some (V.bl (bs[i]'(by nofun))):=by rw[xO,xo (by nofun)];rfl
 obtain⟨u,hu,ru⟩:=r.get hb;rw[hv']at hu;cases hu;cases ru;dsimp only at hq;rw[List.getD_eq_getElem?_getD,xo (by nofun)]at hq;exact vK hq
theorem zEy:∀bs:List Bool,((List.range bs.length).all λi=>bs.getD i false)=bs.all id:=by
 intro bs;rw[vn,ve,ve];constructor
 ·intro h b hb;obtain⟨i,hi,rfl⟩:=List.mem_iff_getElem.mp hb;have:=h i (List.mem_range.mpr hi);simpa[List.getD_eq_getElem?_getD,hi]using this
 ·intro h i hi;have hi':=List.mem_range.mp hi;have:=h bs[i] (List.getElem_mem hi');simpa[List.getD_eq_getElem?_getD,hi']using this
theorem zP8(hc:X.calm=true):zB9 X (.builtin "all") (λxs H Q=>∃(p:Addr) (bs:List Bool),xs=[.ref p]/\SqL X.K H p (bs.map V.bl)/\Q (.bl (bs.all id)) H):=by
 intro pins s σ H xs us Q I r h;obtain⟨p,bs,rfl,hq,q⟩:=h;obtain⟨u,rfl,rx⟩:=vals1 r;cases rx;obtain⟨its,rv,pl,hz⟩:=I.list hq;have hl:=rv.length;rw[xp]at hl;have hne:p≠s.heap.objs.size:=by obtain⟨o,ho,_⟩:=pl.isList;exact xy (xn ho)
 refine call_all_walk (wpAny_pyIter_list pl.isList ?_);refine⟨_,_,_,_,_,_,_,rfl,Walks.list (A:=X.A.in1) (I.ok.hd hc) _ p hne its.toArray,⟨⟨_,xD _ rfl,rfl,rfl⟩,pl.isList.at λo e=>xm _ e⟩,zFu rv,λh' tk hk=>?_⟩;have hfr:=I.hok.fresh (xh _);have fp:=I.fpOk (xh _) hfr;have e:((List.range its.toArray.size).all λi=>bs.getD i false)=bs.all id:=by rw[xu,<- hl];exact zEy bs
 rw[e];exact⟨.bl (bs.all id),H,Inv.turned (I.kept λb o e=>xm _ e) (λb o hb e=>hk b o (by simpa using hb) e) fp.1 fp.2.1 fp.2.2.2.1 fp.2.2.2.2.1 fp.2.2.2.2.2,rfl,q⟩
end
inductive Dv where
 | non|bl (b:Bool)|int (i:Int)|str (x:Str)|tup (l:List Dv)|lst (l:List Dv)
mutual
def Dv.eqv:Dv->Dv->Bool
 | .non,.non=>true
 | .bl a,.bl b=>a == b
 | .int a,.int b=>a == b
 | .str a,.str b=>decide (a=b)
 | .tup a,.tup b=>eqvL a b
 | .lst a,.lst b=>eqvL a b
 | _,_=>false
def eqvL:List Dv->List Dv->Bool
 | [],[]=>true
 | a::r,b::t=>a.eqv b && eqvL r t
 | _,_=>false
end
mutual
def Dv.cmp:Dv->Dv->Bool
 | .non,.non=>true
 | .bl _,.bl _=>true
 | .int _,.int _=>true
 | .str _,.str _=>true
 | .tup a,.tup b=>cmpL a b
 | .lst a,.lst b=>cmpL a b
 | _,_=>false
def cmpL:List Dv->List Dv->Bool
 | a::r,b::t=>a.cmp b && cmpL r t
 | _,_=>true
end
mutual
def Dv.dep:Dv->Nat
 | .tup l=>depL l+1
 | .lst l=>depL l+1
 | _=>0
def depL:List Dv->Nat
 | []=>0
 | d::r=>max d.dep (depL r)
end
mutual
def Den(K:PySem.W.Frag)(H:Hp):Dv->V->Prop
 | .non,v=>v=.non
 | .bl b,v=>v=.bl b
 | .int i,v=>v=.int i
 | .str x,v=>v=.str x
 | .tup ds,v=>∃a xs,v=.ref a/\SqT K H a xs/\DenL K H ds xs
 | .lst ds,v=>∃a xs,v=.ref a/\SqL K H a xs/\DenL K H ds xs
def DenL(K:PySem.W.Frag)(H:Hp):List Dv->List V->Prop
 | [],xs=>xs=[]
 | d::ds,xs=>∃x r,xs=x::r/\Den K H d x/\DenL K H ds r
end
mutual
theorem Dv.eqv_iff:∀(a b:Dv),a.eqv b=true <-> a=b
 | .non,b=>by cases b <;> simp[Dv.eqv]
 | .bl x,b=>by cases b <;> simp[Dv.eqv]
 | .int x,b=>by cases b <;> simp[Dv.eqv]
 | .str x,b=>by cases b <;> simp[Dv.eqv]
 | .tup l,b=>by
  cases b with
  | tup m=>simp only[Dv.eqv,Dv.tup.injEq];exact zCi l m
  | _=>simp[Dv.eqv]
 | .lst l,b=>by
  cases b with
  | lst m=>simp only[Dv.eqv,Dv.lst.injEq];exact zCi l m
  | _=>simp[Dv.eqv]
theorem zCi:∀(a b:List Dv),eqvL a b=true <-> a=b
 | [],b=>by cases b <;> simp[eqvL]
 | x::r,b=>by
  cases b with
  | nil=>simp[eqvL]
  | cons y t=>simp only[eqvL,xl,List.cons.injEq,Dv.eqv_iff x y,zCi r t]
end
section
variable {X:Cx}{pins:List (Addr × Obj)}{σ:St}{H:Hp}{s:Shared}
mutual
theorem Den.inj(I:Inv X pins σ H s):∀(d e:Dv) (v:V),Den X.K H d v->Den X.K H e v->d.cmp e=true->d=e
 | .non,e,v,h,h',c=>by cases e <;> simp[Dv.cmp]at c;rfl
 | .bl x,e,v,h,h',c=>by
  cases e <;> simp[Dv.cmp]at c
  have:=Eq.trans (Eq.symm (h)) (h');cases this;rfl
 | .int x,e,v,h,h',c=>by
  cases e <;> simp[Dv.cmp]at c
  have:=Eq.trans (Eq.symm (h)) (h');cases this;rfl
 | .str x,e,v,h,h',c=>by
  cases e <;> simp[Dv.cmp]at c
  have:=Eq.trans (Eq.symm (h)) (h');cases this;rfl
 | .tup l,e,v,h,h',c=>by
  cases e with
  | tup m=>
   obtain⟨a,xs,e1,q1,r1⟩:=h;obtain⟨b,ys,e2,q2,r2⟩:=h';have e3:=Eq.trans (Eq.symm e1) e2;cases e3;have e4:=I.tuple_inj q1 q2;subst e4;rw[DenL.inj I l m xs r1 r2 (by simpa[Dv.cmp]using c)]
  | _=>simp[Dv.cmp]at c
 | .lst l,e,v,h,h',c=>by
  cases e with
  | lst m=>
   obtain⟨a,xs,e1,q1,r1⟩:=h;obtain⟨b,ys,e2,q2,r2⟩:=h';have e3:=Eq.trans (Eq.symm e1) e2;cases e3;have e4:=I.list_inj q1 q2;subst e4;rw[DenL.inj I l m xs r1 r2 (by simpa[Dv.cmp]using c)]
  | _=>simp[Dv.cmp]at c
theorem DenL.inj(I:Inv X pins σ H s):∀(ds es:List Dv) (xs:List V),DenL X.K H ds xs->DenL X.K H es xs->cmpL ds es=true->ds=es
 | [],es,xs,h,h',c=>by
  cases es with
  | nil=>rfl
  | cons e es=>
   obtain⟨x,r,e1,_⟩:=h';rw[show xs=[]from h]at e1;cases e1
 | d::ds,es,xs,h,h',c=>by
  cases es with
  | nil=>
   obtain⟨x,r,e1,_⟩:=h;rw[show xs=[]from h']at e1;cases e1
  | cons e es=>
   obtain⟨x,r,e1,h1,h2⟩:=h;obtain⟨y,t,e2,h3,h4⟩:=h';have e3:=Eq.trans (Eq.symm e1) e2;cases e3;simp only[cmpL,xl]at c;rw[Den.inj I d e x h1 h3 c.1,DenL.inj I ds es r h2 h4 c.2]
end
theorem DenL.len{K:PySem.W.Frag}{H:Hp}:∀{ds:List Dv}{xs:List V},DenL K H ds xs->ds.length=xs.length
 | [],_,h=>by rw[show _=[]from h];rfl
 | d::ds,xs,⟨x,r,e,_,h⟩=>by rw[e,xv,xv,DenL.len h]
theorem DenL.get{K:PySem.W.Frag}{H:Hp}:∀{ds:List Dv}{xs:List V}{j:Nat}{d:Dv}{x:V},DenL K H ds xs->ds[j]?=some d->xs[j]?=some x->Den K H d x
 | [],_,_,_,_,_,e,_=>by simp at e
 | d::ds,xs,0,d',x',⟨x,r,e,h1,_⟩,e1,e2=>by
  subst e;simp at e1 e2;subst e1 e2;exact h1
 | d::ds,xs,j+1,d',x',⟨x,r,e,_,h2⟩,e1,e2=>by
  subst e;exact DenL.get (j:=j) h2 (by simpa using e1) (by simpa using e2)
theorem zEe:∀{ds es:List Dv}{j:Nat}{d e:Dv},cmpL ds es=true->ds[j]?=some d->es[j]?=some e->d.cmp e=true
 | [],_,_,_,_,_,h,_=>by simp at h
 | _::_,[],_,_,_,_,_,h=>by simp at h
 | a::r,b::t,0,d,e,c,h1,h2=>by
  simp at h1 h2;subst h1 h2;simp only[cmpL,xl]at c;exact c.1
 | a::r,b::t,j+1,d,e,c,h1,h2=>by
  simp only[cmpL,xl]at c;exact zEe (j:=j) c.2 (by simpa using h1) (by simpa using h2)
theorem zEd:∀{ds:List Dv}{j:Nat}{d:Dv},ds[j]?=some d->d.dep<=depL ds
 | [],_,_,h=>by simp at h
 | a::r,0,d,h=>by simp at h;subst h;simp only[depL];lia
 | a::r,j+1,d,h=>by
  have:=zEd (by simpa using h);simp only[depL];lia
noncomputable def zDt (ds es:List Dv) (j:Nat):Bool:=match ds[j]?,es[j]? with
 | some d,some e=>d.eqv e
 | _,_=>true
theorem zCj:∀(ds es:List Dv),((List.range (min ds.length es.length)).all (zDt ds es) && ds.length == es.length)=eqvL ds es
 | [],[]=>rfl
 | [],e::es=>by simp[eqvL]
 | d::ds,[]=>by simp[eqvL]
 | d::ds,e::es=>by
  have ih:=zCj ds es;have h1:min (d::ds).length (e::es).length=min ds.length es.length+1:=by simp only[xv];lia
  have hf:((List.range (min ds.length es.length)).map Nat.succ).all (zDt (d::ds) (e::es))=(List.range (min ds.length es.length)).all (zDt ds es):=by rw[List.all_map];rfl
  have h0:zDt (d::ds) (e::es) 0=d.eqv e:=rfl;have h2:((d::ds).length == (e::es).length)=(ds.length == es.length):=by simp
  rw[h1,List.range_succ_eq_map,vO,hf,h0,h2,Bool.and_assoc,ih,eqvL]
theorem units_in1(A:Around):A.in1.units=A.units+1:=rfl
theorem zSz(I:Inv X pins σ H s):∀(n:Nat) (d e:Dv),d.dep<=n->∀(A:Around) (x y:V) (u v:Value),A.units+n<cLine->Den X.K H d x->Den X.K H e y->RelV x u->RelV y v->d.cmp e=true->SeqAt.EqAt A s u v (d.eqv e):=by
 intro n;induction n with
 | zero=>
  intro d e hd A x y u v hu h1 h2 r1 r2 hc;cases d with
  | non=>cases e <;> simp[Dv.cmp]at hc;rw[show x=.non from h1]at r1;rw[show y=.non from h2]at r2;cases r1;cases r2;exact SeqAt.EqAt.same _
  | bl a=>cases e with|bl b=>(rw[show x=.bl a from h1]at r1;rw[show y=.bl b from h2]at r2;cases r1;cases r2;exact SeqAt.EqAt.bool_bool a b)|_=>simp[Dv.cmp]at hc
  | int a=>cases e with|int b=>(rw[show x=.int a from h1]at r1;rw[show y=.int b from h2]at r2;obtain⟨t,rfl⟩:=r1;obtain⟨t',rfl⟩:=r2;exact SeqAt.EqAt.int_int a t b t')|_=>simp[Dv.cmp]at hc
  | str a=>cases e with|str b=>(rw[show x=.str a from h1]at r1;rw[show y=.str b from h2]at r2;obtain⟨t,rfl⟩:=r1;obtain⟨t',rfl⟩:=r2;have q:=SeqAt.EqAt.str_str (A:=A) (s:=s) a t b t';rw[Bool.beq_eq_decide_eq]at q;exact q)|_=>simp[Dv.cmp]at hc
  | tup l=>simp[Dv.dep]at hd
  | lst l=>simp[Dv.dep]at hd
 | succ n ih=>
  intro d e hd A x y u v hu h1 h2 r1 r2 hc;cases d with
  | non=>exact ih .non e (by simp[Dv.dep]) A x y u v (by nofun) h1 h2 r1 r2 hc
  | bl a=>exact ih (.bl a) e (by simp[Dv.dep]) A x y u v (by nofun) h1 h2 r1 r2 hc
  | int a=>exact ih (.int a) e (by simp[Dv.dep]) A x y u v (by nofun) h1 h2 r1 r2 hc
  | str a=>exact ih (.str a) e (by simp[Dv.dep]) A x y u v (by nofun) h1 h2 r1 r2 hc
  | tup l=>
   cases e with
   | tup m=>
    obtain⟨a,xs,ea,qa,ra⟩:=id h1;obtain⟨b,ys,eb,qb,rb⟩:=id h2;subst ea eb;cases r1;cases r2;by_cases hab:a=b
    ·subst hab;have e1:=Den.inj I _ _ _ h1 h2 hc;rw[(Dv.eqv_iff _ _).mpr e1];exact SeqAt.EqAt.same _
    ·obtain⟨its,va,ta,_⟩:=I.tuple qa;obtain⟨jts,vb,tb,_⟩:=I.tuple qb;have la:=ra.len.trans va.length;have lb:=rb.len.trans vb.length;refine SeqAt.EqAt.of_refs hab ?_;have key:=SeqAt.RcAt.tuples (A:=A) (e:=zDt l m) (ta) (tb) (by nofun) (λj h1' h2'=>?_)
     ·simp only[xu]at key;rw[<- la,<- lb,zCj]at key;exact key
     ·simp only[xu]at h1' h2';simp only[uJ];have gl:l[j]?=some (l[j]'(by nofun)):=xo (by nofun);have gm:m[j]?=some (m[j]'(by nofun)):=xo (by nofun);have gx:xs[j]?=some (xs[j]'(by rw[va.length];lia)):=xo _;have gy:ys[j]?=some (ys[j]'(by rw[vb.length];lia)):=xo _;obtain⟨u',gu,ru⟩:=va.get gx;obtain⟨v',gv,rv⟩:=vb.get gy;rw[xo h1']at gu;rw[xo h2']at gv;cases gu;cases gv;have e1:zDt l m j=(l[j]'(by nofun)).eqv (m[j]'(by nofun)):=by simp only[zDt,gl,gm]
      rw[e1];have hdep:=zEd gl;simp only[Dv.dep]at hd;simp only[Dv.cmp]at hc;exact ih _ _ (by nofun) A.in1 _ _ _ _ (by rw[units_in1];lia) (ra.get gl gx) (rb.get gm gy) ru rv (zEe hc gl gm)
   | _=>simp[Dv.cmp]at hc
  | lst l=>
   cases e with
   | lst m=>
    obtain⟨a,xs,ea,qa,ra⟩:=id h1;obtain⟨b,ys,eb,qb,rb⟩:=id h2;subst ea eb;cases r1;cases r2;by_cases hab:a=b
    ·subst hab;have e1:=Den.inj I _ _ _ h1 h2 hc;rw[(Dv.eqv_iff _ _).mpr e1];exact SeqAt.EqAt.same _
    ·obtain⟨its,va,ta,_⟩:=I.list qa;obtain⟨jts,vb,tb,_⟩:=I.list qb;have la:=ra.len.trans va.length;have lb:=rb.len.trans vb.length;refine SeqAt.EqAt.of_refs hab ?_;by_cases hsz:its.length=jts.length
     ·have key:=SeqAt.RcAt.lists (A:=A) (e:=zDt l m) ta.isList tb.isList (by simpa using hsz) (by nofun) (λj h1' h2'=>?_)
      ·simp only[xu]at key;have e2:=zCj l m;rw[la,lb,hsz,Nat.min_self,ur,ux]at e2;rw[hsz,e2]at key;exact key
      ·simp only[xu]at h1' h2';simp only[uJ];have gl:l[j]?=some (l[j]'(by nofun)):=xo (by nofun);have gm:m[j]?=some (m[j]'(by nofun)):=xo (by nofun);have gx:xs[j]?=some (xs[j]'(by rw[va.length];lia)):=xo _;have gy:ys[j]?=some (ys[j]'(by rw[vb.length];lia)):=xo _;obtain⟨u',gu,ru⟩:=va.get gx;obtain⟨v',gv,rv⟩:=vb.get gy;rw[xo h1']at gu;rw[xo h2']at gv;cases gu;cases gv;have e1:zDt l m j=(l[j]'(by nofun)).eqv (m[j]'(by nofun)):=by simp only[zDt,gl,gm]
       rw[e1];have hdep:=zEd gl;simp only[Dv.dep]at hd;simp only[Dv.cmp]at hc;exact ih _ _ (by nofun) A.in1 _ _ _ _ (by rw[units_in1];lia) (ra.get gl gx) (rb.get gm gy) ru rv (zEe hc gl gm)
     ·have e2:(Dv.lst l).eqv (.lst m)=false:=by
       rw[Bool.eq_false_iff];intro z;have z':=(Dv.eqv_iff _ _).mp z;cases z';lia
      rw[e2];exact SeqAt.RcAt.lists_lengths ta.isList tb.isList (by simpa using hsz) (by nofun)
   | _=>simp[Dv.cmp]at hc
theorem zGg(I:Inv X pins σ H s){A:Around}(hd:depL l<=60)(hu:A.units+64<cLine)(ra:DenL X.K H l xs)(rb:DenL X.K H m ys)(va:Vals xs its)(vb:Vals ys jts)(hc:cmpL l m=true)
  (j:Nat) (h1':j<its.toArray.size) (h2':j<jts.toArray.size):SeqAt.EqAt A.in1 s its.toArray[j] jts.toArray[j] (zDt l m j):=by
 simp only[xu]at h1' h2';simp only[uJ];have la:=ra.len.trans va.length;have lb:=rb.len.trans vb.length;have gl:l[j]?=some (l[j]'(by nofun)):=xo (by nofun);have gm:m[j]?=some (m[j]'(by nofun)):=xo (by nofun);have gx:xs[j]?=some (xs[j]'(by rw[va.length];lia)):=xo _;have gy:ys[j]?=some (ys[j]'(by rw[vb.length];lia)):=xo _;obtain⟨u',gu,ru⟩:=va.get gx;obtain⟨v',gv,rv⟩:=vb.get gy;rw[xo h1']at gu;rw[xo h2']at gv;cases gu;cases gv;have e1:zDt l m j=(l[j]'(by nofun)).eqv (m[j]'(by nofun)):=by simp only[zDt,gl,gm]
 rw[e1];have hdep:=zEd gl;exact zSz I 60 _ _ (by nofun) A.in1 _ _ _ _ (by rw[units_in1];lia) (ra.get gl gx) (rb.get gm gy) ru rv (zEe hc gl gm)
noncomputable def rEqD (K:PySem.W.Frag) (neg:Bool):R2:=λx y H Q=>(∃l m,Den K H (.tup l) x/\Den K H (.tup m) y/\cmpL l m=true/\depL l<=60/\Q (.bl (if neg then !eqvL l m else eqvL l m)) H) \/
 ∃l m,Den K H (.lst l) x/\Den K H (.lst m) y/\cmpL l m=true/\depL l<=60/\Q (.bl (if neg then !eqvL l m else eqvL l m)) H
theorem zSm(hu:X.A.units+64<cLine):OpR X (compareOp .Eq) (rEqD X.K false):=by
 intro pins s σ H x y v u Q I rx ry h;rcases h with⟨l,m,⟨a,xs,ea,qa,ra⟩,⟨b,ys,eb,qb,rb⟩,hc,hd,q⟩|⟨l,m,⟨a,xs,ea,qa,ra⟩,⟨b,ys,eb,qb,rb⟩,hc,hd,q⟩
 ·subst ea eb;cases rx;cases ry;obtain⟨its,va,ta,_⟩:=I.tuple qa;obtain⟨jts,vb,tb,_⟩:=I.tuple qb;have la:=ra.len.trans va.length;have lb:=rb.len.trans vb.length;refine SeqAt.RcAt.tuples (ta) (tb) (by nofun) (λj h1 h2=>zGg I hd hu ra rb va vb hc j h1 h2) _ _ _ _ ?_;simp only[xu];rw[<- la,<- lb,zCj];exact⟨.bl _,H,I,rfl,q⟩
 ·subst ea eb;cases rx;cases ry;obtain⟨its,va,ta,_⟩:=I.list qa;obtain⟨jts,vb,tb,_⟩:=I.list qb;have la:=ra.len.trans va.length;have lb:=rb.len.trans vb.length;by_cases hsz:its.length=jts.length
  ·refine SeqAt.RcAt.lists ta.isList tb.isList (by simpa using hsz) (by nofun) (λj h1 h2=>zGg I hd hu ra rb va vb hc j h1 h2) _ _ _ _ ?_;have e2:=zCj l m;rw[la,lb,hsz,Nat.min_self,ur,ux]at e2;simp only[xu];rw[hsz,e2];exact⟨.bl _,H,I,rfl,q⟩
  ·refine SeqAt.RcAt.lists_lengths ta.isList tb.isList (by simpa using hsz) (by nofun) _ _ _ _ ?_;have e2:eqvL l m=false:=by
    rw[Bool.eq_false_iff];intro z;have z':=(zCi _ _).mp z;subst z';lia
   rw[e2]at q;exact⟨.bl _,H,I,rfl,q⟩
theorem zSj(hu:X.A.units+64<cLine):OpR X (compareOp .NotEq) (rEqD X.K true):=by
 intro pins s σ H x y v u Q I rx ry h;rcases h with⟨l,m,⟨a,xs,ea,qa,ra⟩,⟨b,ys,eb,qb,rb⟩,hc,hd,q⟩|⟨l,m,⟨a,xs,ea,qa,ra⟩,⟨b,ys,eb,qb,rb⟩,hc,hd,q⟩
 ·subst ea eb;cases rx;cases ry;obtain⟨its,va,ta,_⟩:=I.tuple qa;obtain⟨jts,vb,tb,_⟩:=I.tuple qb;have la:=ra.len.trans va.length;have lb:=rb.len.trans vb.length;refine SeqAt.RcNeAt.tuples (ta) (tb) (by nofun) (λj h1 h2=>zGg I hd hu ra rb va vb hc j h1 h2) _ _ _ _ ?_;simp only[xu];rw[<- la,<- lb,zCj];exact⟨.bl _,H,I,rfl,q⟩
 ·subst ea eb;cases rx;cases ry;obtain⟨its,va,ta,_⟩:=I.list qa;obtain⟨jts,vb,tb,_⟩:=I.list qb;have la:=ra.len.trans va.length;have lb:=rb.len.trans vb.length;by_cases hsz:its.length=jts.length
  ·refine SeqAt.RcNeAt.lists ta.isList tb.isList (by simpa using hsz) (by nofun) (λj h1 h2=>zGg I hd hu ra rb va vb hc j h1 h2) _ _ _ _ ?_;have e2:=zCj l m;rw[la,lb,hsz,Nat.min_self,ur,ux]at e2;simp only[xu];rw[hsz,e2];exact⟨.bl _,H,I,rfl,q⟩
  ·refine SeqAt.RcNeAt.lists_lengths ta.isList tb.isList (by simpa using hsz) (by nofun) _ _ _ _ ?_;have e2:eqvL l m=false:=by
    rw[Bool.eq_false_iff];intro z;have z':=(zCi _ _).mp z;subst z';lia
   rw[e2]at q;exact⟨.bl _,H,I,rfl,q⟩
theorem zS1(b:Bool):zB9 X (.builtin "isinstance") (λxs H Q=>∃x t,xs=[x,.ty T]/\TyOf X.K H x t/\PySem.W.kitOne X.K t (.type T)=some b/\Q (.bl b) H):=by intro pins s σ H xs us Q I r h;obtain⟨x,t,rfl,ty,e,q⟩:=h;obtain⟨u,w',rfl,ru,rw'⟩:=vals2 r;cases(rw');exact zNw I ru ty e λtk=>⟨.bl b,H,I.tok _,rfl,q⟩
noncomputable def gLst (K:PySem.W.Frag) (n:Nat) (t:TGs):TG:=λv σ H Q=>∃a xs,v=.ref a/\SqL K H a xs/\xs.length=n/\t xs σ H Q
theorem zKc{prog:Program}{w:World}{A:Around}{E:Value->Shared->Prop}{items:Array Value}(hne:t≠it):∀(n i:Nat) (s:Shared) (Q:List Value->Shared->Prop),s.heap.IsListIter it t i->s.heap.IsList t items->i+n<=items.size->
  (∀h',h'.IsListIter it t (i+n)->Heap.SameBut it s.heap h'->Q ((items.toList.drop i).take n) { s with heap:=h' })->wpAny (model prog w) A (draw (.ref it) n) Q E s
 | 0,i,s,Q,hit,_,_,hQ=>by
  show wpAny _ _ (pure []) Q E s;exact xg (by simpa using hQ s.heap hit (Heap.SameBut.refl ..))
 | n+1,i,s,Q,hit,ht,hle,hQ=>by
  have hlt:i<items.size:=by nofun
  show wpAny _ _ (pyNext (.ref it) >>= _) Q E s;refine xa (wpAny_pyNext_list_item hit ht (x:=items[i]) (by simp[hlt]) λh₁ hit₁ hs₁=>?_);refine xa (xS (zKc hne n (i+1) { s with heap:=h₁ } _ hit₁ (ht.at λo e=>hs₁.extBut t o hne e) (by nofun) λh₂ hit₂ hs₂=>xg ?_));have hd:items.toList.drop i=items[i]::items.toList.drop (i+1):=by simp[List.drop_eq_getElem_cons,hlt]
  have:=hQ h₂ (by rw[show i+(n+1)=i+1+n by nofun];exact hit₂) (hs₁.trans hs₂);rw[hd,List.take_succ_cons]at this;exact this
theorem zEf{prog:Program}{w:World}{A:Around}{E:Value->Shared->Prop}{s:Shared}{Q:List Value->Shared->Prop}(hh:A.handled=none)(ht:s.heap.IsList t items)
  (hQ:∀h',Heap.ExtBut s.heap.objs.size s.heap h'->Q items.toList { s with heap:=h' }):wpAny (model prog w) A (unpackItems (.ref t) items.size none) Q E s:=by
 have hlt:t≠s.heap.objs.size:=by obtain⟨o,ho,_⟩:=ht;exact xy (xn ho)
 unfold unpackItems;refine xa ?_
 ·unfold notIterableAtAll;refine xa (uE ht.typeIs slot_list_iter.lookup ?_);refine xg ?_;simp only[vi,xZ];refine xa (xS (wpAny_pyIter_list ht ?_));refine xa (xS (zKc hlt items.size 0 _ _ ⟨_,xD _ rfl,rfl,rfl⟩ (ht.at λo e=>xm _ e) (by nofun) λh₁ hit₁ hs₁=>?_));have hall:List.take items.size (List.drop 0 items.toList)=items.toList:=by
   rw[List.drop_zero];exact uK (by simp)
  rw[hall];rw[xf (by simp)];have ht₁:=ht.at λo e=>hs₁.extBut t o hlt (xm _ e)
  refine xa (xS (wpAny_pyNext_list_end hh hit₁ ht₁ (by simp) λh₂ he₂=>?_));simp only[Option.isSome_none,vi,xZ];refine xg (hQ h₂ λb o hb e=>he₂ b o hb (hs₁.extBut b o hb (xm _ e)))
theorem zY8{k:Nat}{n:Nat}{pos:Pos}(hc:X.calm=true)(h:PGs X es t)
  (hn:(assignEach es X.env).length=n:=by rfl) (hst:(assignEach es X.env).findIdx? (·.1)=none:=by rfl):PG X (.Tuple es k pos) (gLst X.K n t):=by
 intro pins s σ H v u Q I r hw;obtain⟨a,xs,e1,hq,hl,hw⟩:=hw;subst e1;cases r;obtain⟨its,rv,ht,hz⟩:=I.list hq;rw[assign_Tuple];refine xa (uj ?_);unfold unpack;rw[hst,hn,show n=its.toArray.size by rw[xu,<- rv.length,hl]];refine xa (xS (zEf (I.ok.hd hc) ht.isList λh' hx=>?_));have I1:=I.kept (t':=s.toks) λb o e=>hx b o (xy (xn e)) e
 exact h pins _ σ H xs _ Q I1 (by simpa using rv) hw
end
structure Cal (P:Program) (w:World) (K:PySem.W.Frag) (mg:Str->Option Value) (base:Heap) (x:Str) (k:Nat) (ps:List Str) (sp:Sp):Prop where
 ex:∃f fd,FnOk P w K mg base CX0 k f fd ps sp/\mg x=some (.ref f)/\PySem.W.keepIn K (.ref f)=true/\Binds K fd ps []
section
variable {X:Cx}{x:Str}{k:Nat}{ps:List Str}{sp:Sp}{e:Expr}{es:List Expr}{t:TA}{p pos:Pos}
theorem zYm(C:Cal X.prog X.w X.K X.mg X.base x k ps sp)(hr:Room k X.A)(hg:Gl X x)(ha:PA X (e::es) t)(hdb:(x == ("__debug__":Str))=false:=by decide)
  (hs:starEach (e::es) X.env=(false,eval e X.env)::starEach es X.env:=by rfl) (hpl:(backTo pos (starEach es X.env)).any (·.1)=false:=by rfl):
  PE X (.Call (.Name x p) (e::es) [] pos) (zQ1 sp [] E0 t):=by
 obtain⟨f,fd,F,hm,hk,hb⟩:=C.ex;exact zUv F hr hg hm hk hb .nil pass0 ha hdb hs hpl
end
noncomputable def nst:Expr->Bool
 | .Starred ..=>false
 | _=>true
theorem zBd(h:nst e=true):starEach (e::es) env=(false,eval e env)::starEach es env:=by cases e <;> first|rfl|cases h
theorem zDu :∀{es:List Expr},es.all nst=true->(backTo pos (starEach es env)).any (·.1)=false
 | [],_=>rfl
 | e::es,h=>by
  simp only[vO,xl]at h;rw[zBd h.1];show(false || (backTo pos (starEach es env)).any (·.1))=false;rw[zDu h.2];rfl
noncomputable def nsl:Expr->Bool
 | .Slice ..=>false
 | _=>true
theorem zQj(h:nsl b=true):zPp b:=λo i=>by cases b <;> first|rfl|cases h
noncomputable def nco:Expr->Bool
 | .ListComp ..|.SetComp ..|.DictComp ..=>false
 | _=>true
theorem zFz(h:nco e=true):swapsWith e tg l env=pure false:=by cases e <;> first|rfl|cases h
theorem zTt{l:Nat}(h:nco e=true):swapsWithSole [tg] e l env=pure false:=zFz h
theorem zQ3{l:Nat}:swapsWithSole [.Tuple es k p] e l env=pure false:=by show swapsWith e (some (.Tuple es k p)) l env=pure false;cases e <;> rfl
noncomputable def ntu:Expr->Bool
 | .Tuple ..=>false
 | _=>true
theorem zMh(h:ntu e=true):swappedStores [tg] e env=pure none:=by
 cases tg with
 | Tuple _ _ _=>cases e with
  | Tuple _ _ _=>cases h
  | _=>rfl
 | List _ _=>cases e with
  | Tuple _ _ _=>cases h
  | _=>rfl
 | _=>rfl
theorem zEx(h:nst tg=true):(assignEach (tg::es) env).map (·.2)=assign tg env::(assignEach es env).map (·.2):=by cases tg <;> first|rfl|cases h
theorem zB3 :∀{es:List Expr},es.all nst=true->(assignEach es env).length=es.length/\(assignEach es env).findIdx? (·.1)=none
 | [],_=>⟨rfl,rfl⟩
 | e::es,h=>by
  simp only[vO,xl]at h;obtain⟨h1,h2⟩:=zB3 h.2;have e1:assignEach (e::es) env=(false,assign e env)::assignEach es env:=by have:=h.1;cases e <;> first|rfl|cases this
  rw[e1];refine⟨by rw[xv,h1,xv],?_⟩;rw[List.findIdx?_cons];simp[h2]
noncomputable def nse:Expr->Bool
 | .Set ..=>false
 | _=>true
theorem zG2(h:nse e=true)(x:Value):foldedSetIterable e env x=pure x:=by cases e <;> first|rfl|cases h
noncomputable def nba:Expr->Bool
 | .Call ..=>false
 | _=>true
theorem zEv(h:nba o=true):attributeBase o m env (eval o env)=eval o env:=by cases o <;> first|rfl|cases h
noncomputable def ntt:Expr->Bool
 | .UnaryOp ..|.BoolOp ..|.IfExp ..|.Compare ..=>false
 | _=>true
theorem zTm{e:Expr}(h:ntt e=true)(whole:Sem Value):isTrue e env whole=(do let v <- whole;standAt e.pos;holding [v] (truthy v)):=by cases e <;> first|rfl|cases h
section
variable {X:Cx}{e o i a b:Expr}{es:List Expr}{te ta tb to ti:TE}{t:TA}{p pos cpos apos:Pos}
theorem qa(ha:PE X e te)(hr:PA X es t)(h:nst e=true:=by rfl):PA X (e::es) (zTr te t):=zUy ha hr (zBd h)
theorem qix(hr:IxR X r)(ha:PE X a ta)(hb:PE X b tb)(h:nsl b=true:=by rfl):PE X (.Subscript a b pos) (tOp r ta tb):=yBk hr ha hb (zQj h)
theorem qcal(C:Cal X.prog X.w X.K X.mg X.base x k ps sp)(hr:Room k X.A)(hg:Gl X x)(ha:PA X (e::es) t)(hdb:(x == ("__debug__":Str))=false:=by decide)
  (h:(e::es).all nst=true:=by rfl):PE X (.Call (.Name x p) (e::es) [] pos) (zQ1 sp [] E0 t):=by
 simp only[vO,xl]at h;exact zYm C hr hg ha hdb (zBd h.1) (zDu h.2)
theorem zXw{x:Str}{id:String}{r:List V->Hp->VK->Prop}(hc:zB9 X (.builtin id) r)(hg:Gl X x)(hm:X.mg x=none)(hv:bootBuiltins x=some (.builtin id))(ha:PA X (e::es) t)(hn:x≠"__name__":=by decide)(hdb:(x == ("__debug__":Str))=false:=by decide)
  (h:(e::es).all nst=true:=by rfl):PE X (.Call (.Name x p) (e::es) [] pos) (tCB r t):=by
 simp only[vO,xl]at h;exact zQw hc hg hm hv ha hn hdb (zBd h.1) (zDu h.2)
theorem zXv{r:List V->Hp->VK->Prop}(hc:zB9 X (.type T) r)(hg:Gl X x)(hm:X.mg x=none)(hv:bootBuiltins x=some (.type T))(ha:PA X (e::es) t)(hn:x≠"__name__":=by decide)(hdb:(x == ("__debug__":Str))=false:=by decide)
  (h:(e::es).all nst=true:=by rfl):PE X (.Call (.Name x p) (e::es) [] pos) (tCB r t):=by
 simp only[vO,xl]at h;exact zN2 hc hg hm hv ha hn hdb (zBd h.1) (zDu h.2)
theorem qtruth(ha:PE X e te)(h:ntt e=true:=by rfl):PT X e (λσ H Q=>te σ H λx H1=>∃k,TruV X.K x H1 k/\Q k H1):=zQd ha (zTm h)
theorem qset{j:Nat}{pos':Pos}(hN:X.N.Nodup)(hi:X.N[j]?=some x)(hx:Loc X.env.scope x)(he:PE X e te)(hf:X.fn x=true\/X.env.scope.names.lookup x=some .local:=by first|exact .inl rfl|exact .inr rfl|assumption)(h:nco e=true:=by rfl):
  PS X (.Assign [.Name x pos'] e pos) (tAsg te (gName j)):=zY3 hN hi hx he (zFz h) hf
theorem qasgt(he:PE X e te)(hg:PG X (.Tuple ts k tp) g)(h1:ntu e=true:=by rfl):PS X (.Assign [.Tuple ts k tp] e pos) (tAsg te g):=zSh he hg zQ3 (zMh h1) rfl
theorem qgs(h1:PG X tg g)(h2:PGs X ts gs)(h:nst tg=true:=by rfl):PGs X (tg::ts) (zW3 g gs):=zQo h1 h2 (zEx h)
theorem qtup{ts:List Expr}{n:Nat}(hc:X.calm=true)(h:PGs X ts gs)(hn:ts.length=n:=by rfl)(h1:ts.all nst=true:=by rfl):PG X (.Tuple ts k pos) (gTup X.K n gs):=zY9 hc h ((zB3 h1).1.trans hn) (zB3 h1).2
theorem qunl{ts:List Expr}{n:Nat}(hc:X.calm=true)(h:PGs X ts gs)(hn:ts.length=n:=by rfl)(h1:ts.all nst=true:=by rfl):PG X (.Tuple ts k pos) (gLst X.K n gs):=zY8 hc h ((zB3 h1).1.trans hn) (zB3 h1).2
theorem qfor{tg iter:Expr}{body:List Stmt}{wi:TI}{g:TG}{tb:TS}(hp:PassesOwn (model X.prog X.w) X.A X.env X.xe)(hc:X.calm=true)(hi:PI X tg iter wi)(hg:PG X tg g)(hb:PSs X body tb)(h:nse iter=true:=by rfl):
  PS X (.For tg iter body [] pos) (tFor wi g tb):=zY6 hp hc hi hg hb (zG2 h)
theorem qexpr(he:PE X e te)(h:nco e=true:=by rfl):PS X (.Expr e pos) (zTq te):=zUh he (zFz h)
theorem qlcomp{ix:List Nat}{elt:Expr}{ifs:List Expr}{g:TG}{tt:TT}(hc:X.calm=true)(S:CompScope X own fre ix scope)(hi:PI X tg iter wi)
  (hg:∀cl C s H fp,PG (zAf X (own++fre) scope cl C s H fp) tg g) (ht:∀cl C s H fp,PIfs (zAf X (own++fre) scope cl C s H fp) ifs tt) (he:∀cl C s H fp,PE (zAf X (own++fre) scope cl C s H fp) elt te)
  (h:nse iter=true:=by rfl):PE X (.ListComp elt [⟨tg,iter,ifs,0⟩] scope pos) (zIb own ix wi g tt te):=zQr hc S hi hg ht he (zG2 h)
theorem qsetc{own fre:List Str}{ix:List Nat}{scope:Scope}{j:Nat}{pos':Pos}{tg elt iter:Expr}{ifs:List Expr}{wi:TI}{g:TG}{tt:TT}(hN:X.N.Nodup)(hix:X.N[j]?=some x)(hx:Loc X.env.scope x)
  (hc:X.calm=true) (S:CompScope X own fre ix scope) (hi:PI X tg iter wi)
  (hg:∀cl C s H fp,PG (zAf X (own++fre) scope cl C s H fp) tg g) (ht:∀cl C s H fp,PIfs (zAf X (own++fre) scope cl C s H fp) ifs tt) (he:∀cl C s H fp,PE (zAf X (own++fre) scope cl C s H fp) elt te)
  (hsw:swapsWith (.ListComp elt [⟨tg,iter,ifs,0⟩] scope cpos) (some (.Name x pos')) pos.line X.env=pure true:=by rfl) (h:nse iter=true:=by rfl) (hf:X.fn x=true\/X.env.scope.names.lookup x=some .local:=by first|exact .inl rfl|exact .inr rfl|assumption):
  PS X (.Assign [.Name x pos'] (.ListComp elt [⟨tg,iter,ifs,0⟩] scope cpos) pos) (tAsg (zIb own ix wi g tt te) (gName j)):=zUf hN hix hx hc S hi hg ht he hsw (zG2 h) hf
theorem qrange1{tg:Expr}{ta:TA}(hg:Gl X "range")(hm:X.mg "range"=none)(ha:PA X [a] ta)(h:nst a=true:=by rfl):PI X tg (.Call (.Name "range" p) [a] [] pos) (zVy ta):=zMy hg hm ha (zBd h)
theorem qlistrev{p2 pos2:Pos}(hc:X.calm=true)(he:PE X e te)(hgl:Gl X "list")(hml:X.mg "list"=none)(hgr:Gl X "reversed")(hmr:X.mg "reversed"=none)(h:nst e=true:=by rfl):
  PE X (.Call (.Name "list" p) [.Call (.Name "reversed" p2) [e] [] pos2] [] pos) (zFx X.K te):=zL1 hc he hgl hml hgr hmr (zBd h) rfl
theorem qbm0{T name id:_}{r:V->List V->Hp->VK->Prop}(pa:PlainAttrs T)(slot:Slot T name id)(hty:typeOf (.builtin id)=pure (.type "method_descriptor"))(hm:MtR X id r)(ho:PE X o to)(h:nba o=true:=by rfl)(hline:(apos.endLine == cpos.line)=true:=by rfl):
  PE X (.Call (.Attribute o name apos) [] [] cpos) (tBM0 X.K T r to):=zYn pa slot hty hm ho (zEv h) hline
end
structure SE (X:Cx) (e:Expr) (t:TE):Prop where h:PE X e t
structure ST (X:Cx) (e:Expr) (t:TT):Prop where h:PT X e t
structure SW (X:Cx) (e:Expr) (t:TT):Prop where h:PW X e t
structure SA (X:Cx) (es:List Expr) (t:TA):Prop where h:PA X es t
structure SS (X:Cx) (st:Stmt) (t:TS):Prop where h:PS X st t
structure SSs (X:Cx) (st:List Stmt) (t:TS):Prop where h:PSs X st t
structure SG (X:Cx) (e:Expr) (t:TG):Prop where h:PG X e t
structure SGs (X:Cx) (es:List Expr) (t:TGs):Prop where h:PGs X es t
structure SI (X:Cx) (tg e:Expr) (t:TI):Prop where h:PI X tg e t
structure SIfs (X:Cx) (es:List Expr) (t:TT):Prop where h:PIfs X es t
structure SO (X:Cx) (e:Option Expr) (t:TO):Prop where h:PO X e t
section
variable {X:Cx}{e o i a b c:Expr}{es:List Expr}{te ta tb tc to ti tv td ty:TE}{t:TA}{p pos cpos apos:Pos}{tA tB':TT}
theorem pv'(i:Nat){pos:Pos}(hN:X.N[i]?=some x:=by rfl)(hv:Vis X.env.scope x:=by first|exact Or.inl rfl|exact Or.inr (Or.inl rfl)|exact Or.inr (Or.inr rfl))(hd:(x == ("__debug__":Str))=false:=by decide)
  (hcd:(x == ("__classdict__":Str))=false:=by decide):SE X (.Name x pos) (tVar i):=⟨pv i hN hv hd hcd⟩
theorem zUs{i:Int}{j:Nat}:SE X (.Constant (.int i) j pos) (tC (.int i)):=⟨zYk⟩
theorem zYp{b:Bool}{j:Nat}:SE X (.Constant (.bool b) j pos) (tC (.bl b)):=⟨yBm⟩
theorem zUq{j:Nat}:SE X (.Constant .none j pos) (tC .non):=⟨zYi⟩
theorem zUo{j:Nat}:SE X (.Constant (.str x) j pos) (tC (.str x)):=⟨zYe⟩
theorem zQx(hg:Gl X x)(hm:X.mg x=none)(hv:bootBuiltins x=some u)(r:RelV v u)(hn:x≠"__name__":=by decide)(hd:(x == ("__debug__":Str))=false:=by decide):SE X (.Name x pos) (tC v):=⟨zUw hg hm hv r hn hd⟩
theorem zYg(ho:OpR X (binaryOp op) r)(ha:SE X a ta)(hb:SE X b tb):SE X (.BinOp a op b pos) (tOp r ta tb):=⟨yBj ho ha.h hb.h⟩
theorem zYc{r:V->Hp->VK->Prop}(ho:UnR X (unaryOp op) r)(ha:SE X a ta):SE X (.UnaryOp op a pos) (tUn r ta):=⟨yBh ho ha.h⟩
theorem zUx(ha:SE X a ta)(hb:SE X (.BoolOp .And (b::es) pos) tb):SE X (.BoolOp .And (a::b::es) pos) (zXk ta tb):=⟨zYq ha.h hb.h⟩
theorem zYf(ha:SE X a ta)(hb:SE X (.BoolOp .Or (b::es) pos) tb):SE X (.BoolOp .Or (a::b::es) pos) (tOrV ta tb):=⟨yBi ha.h hb.h⟩
theorem zUp(ha:SE X a ta):SE X (.BoolOp op [a] pos) ta:=⟨zYh ha.h⟩
theorem zN0(hc:ST X c tA)(ha:SE X a ta)(hb:SE X b tb):SE X (.IfExp c a b pos) (tIf tA ta tb):=⟨zQs hc.h ha.h hb.h⟩
theorem zUn(h:SA X es t):SE X (.Tuple es k pos) (tTup t):=⟨zYd h.h⟩
theorem zUr(h:SA X es t):SE X (.List es pos) (tLst t):=⟨zYj h.h⟩
theorem zMz{r:V->Option Int->Option Int->Hp->VK->Prop}{lo hi:Option Expr}{tl th:TO}{p2:Pos}(hr:SlR X r)(he:SE X e te)(hl:SO X lo tl)(hu:SO X hi th):SE X (.Subscript e (.Slice lo hi none p2) pos) (tSl r te tl th):=⟨zQq hr he.h hl.h hu.h⟩
theorem po_none':SO X none zMd:=⟨zUj⟩
theorem zQi(h:SE X e te):SO X (some e) (zXh te):=⟨zUi h.h⟩
theorem pa_nil':SA X [] tNil:=⟨zYr⟩
theorem qa'(ha:SE X e te)(hr:SA X es t)(h:nst e=true:=by rfl):SA X (e::es) (zTr te t):=⟨qa ha.h hr.h h⟩
theorem qix'(hr:IxR X r)(ha:SE X a ta)(hb:SE X b tb)(h:nsl b=true:=by rfl):SE X (.Subscript a b pos) (tOp r ta tb):=⟨qix hr ha.h hb.h h⟩
theorem qcal'(C:Cal X.prog X.w X.K X.mg X.base x k ps sp)(hr:Room k X.A)(hg:Gl X x)(ha:SA X (e::es) t)(hdb:(x == ("__debug__":Str))=false:=by decide)
  (h:(e::es).all nst=true:=by rfl):SE X (.Call (.Name x p) (e::es) [] pos) (zQ1 sp [] E0 t):=⟨qcal C hr hg ha.h hdb h⟩
theorem zU7{x:Str}{id:String}{r:List V->Hp->VK->Prop}(hc:zB9 X (.builtin id) r)(hg:Gl X x)(hm:X.mg x=none)(hv:bootBuiltins x=some (.builtin id))(ha:SA X (e::es) t)(hn:x≠"__name__":=by decide)(hdb:(x == ("__debug__":Str))=false:=by decide)
  (h:(e::es).all nst=true:=by rfl):SE X (.Call (.Name x p) (e::es) [] pos) (tCB r t):=⟨zXw hc hg hm hv ha.h hn hdb h⟩
theorem zU6{r:List V->Hp->VK->Prop}(hc:zB9 X (.type T) r)(hg:Gl X x)(hm:X.mg x=none)(hv:bootBuiltins x=some (.type T))(ha:SA X (e::es) t)(hn:x≠"__name__":=by decide)(hdb:(x == ("__debug__":Str))=false:=by decide)
  (h:(e::es).all nst=true:=by rfl):SE X (.Call (.Name x p) (e::es) [] pos) (tCB r t):=⟨zXv hc hg hm hv ha.h hn hdb h⟩
theorem qlistrev'{p2 pos2:Pos}(hc:X.calm=true)(he:SE X e te)(hgl:Gl X "list")(hml:X.mg "list"=none)(hgr:Gl X "reversed")(hmr:X.mg "reversed"=none)(h:nst e=true:=by rfl):
  SE X (.Call (.Name "list" p) [.Call (.Name "reversed" p2) [e] [] pos2] [] pos) (zFx X.K te):=⟨qlistrev hc he.h hgl hml hgr hmr h⟩
theorem qbm0'{T name id:_}{r:V->List V->Hp->VK->Prop}(pa:PlainAttrs T)(slot:Slot T name id)(hty:typeOf (.builtin id)=pure (.type "method_descriptor"))(hm:MtR X id r)(ho:SE X o to)(h:nba o=true:=by rfl)(hline:(apos.endLine == cpos.line)=true:=by rfl):
  SE X (.Call (.Attribute o name apos) [] [] cpos) (tBM0 X.K T r to):=⟨qbm0 pa slot hty hm ho.h h hline⟩
theorem zKj :∀{es:List Expr},es.all nst=true->(backTo pos (starEach es env)).all (λx=>!x.1)=true
 | [],_=>rfl
 | e::es,h=>by
  simp only[vO,xl]at h;rw[zBd h.1];show(true && (backTo pos (starEach es env)).all (λx=>!x.1))=true;rw[zKj h.2];rfl
theorem zYo{T name id:_}{r:V->List V->Hp->VK->Prop}(pa:PlainAttrs T)(slot:Slot T name id)(hty:typeOf (.builtin id)=pure (.type "method_descriptor"))(hm:MtR X id r)(ho:SE X o to)(ha:SA X (e::es) t)(h:nba o=true:=by rfl)(hs:(e::es).all nst=true:=by rfl)
  (hlen:decide ((e::es).length+0+0<30)=true:=by rfl) (hline:(apos.endLine == cpos.line)=true:=by rfl):SE X (.Call (.Attribute o name apos) (e::es) [] cpos) (tBM X.K T r to t):=by
 have hs':=hs;simp only[vO,xl]at hs';refine⟨yBl pa slot hty hm ho.h ha.h (zEv h) ?_ hline (zBd hs'.1) (zDu hs'.2)⟩;rw[zKj hs];exact hlen
theorem zQu(ho:OpR X (compareOp op) r)(ha:SE X a ta)(hb:SE X b tb)(hm:behindInMarks op b=false):SE X (.Compare a [op] [b] pos) (tOp r ta tb):=⟨zUu ho ha.h hb.h hm⟩
theorem zQe(ho:OpR X (compareOp op) r)(ha:SE X a ta)(hb:SE X b tb)(hm:behindInMarks op b=false):ST X (.Compare a [op] [b] pos) (zQ0 (tOp r ta tb)):=⟨zUc ho ha.h hb.h hm⟩
theorem zMs(ho:OpR X (compareOp op) r)(ho':OpR X (compareOp op') r')(ha:SE X a ta)(hb:SE X b tb)(hc:SE X c tc)(hm:lastMarks [op,op'] [b,c]=false:=by with_unfolding_all rfl):ST X (.Compare a [op,op'] [b,c] pos) (zQ0 (zGx r r' ta tb tc)):=⟨zQf ho ho' ha.h hb.h hc.h hm⟩
theorem zN1(ho:OpR X (compareOp op) r)(ho':OpR X (compareOp op') r')(ha:SE X a ta)(hb:SE X b tb)(hc:SE X c tc)(hm:lastMarks [op,op'] [b,c]=false:=by with_unfolding_all rfl):SE X (.Compare a [op,op'] [b,c] pos) (zGx r r' ta tb tc):=⟨zQv ho ho' ha.h hb.h hc.h hm⟩
theorem zUb(ha:ST X a tA):ST X (.UnaryOp .Not a pos) (tNot tA):=⟨zY2 ha.h⟩
theorem zQc(ha:ST X a tA):SW X (.BoolOp .And [a] pos) tA:=⟨zU9 ha.h⟩
theorem zU8(ha:ST X a tA):SW X (.BoolOp .Or [a] pos) tA:=⟨zXy ha.h⟩
theorem zUa(ha:ST X a tA)(hb:SW X (.BoolOp .And (b::es) pos) tB'):SW X (.BoolOp .And (a::b::es) pos) (tAnd tA tB'):=⟨zY0 ha.h hb.h⟩
theorem zXz(ha:ST X a tA)(hb:SW X (.BoolOp .Or (b::es) pos) tB'):SW X (.BoolOp .Or (a::b::es) pos) (tOr tA tB'):=⟨yBd ha.h hb.h⟩
theorem zXx(h:SW X e tA):ST X e tA:=⟨h.h.pt⟩
noncomputable def tTru (K:PySem.W.Frag) (te:TE):TT:=λσ H Q=>te σ H λx H1=>∃k,TruV K x H1 k/\Q k H1
theorem qtruth'(ha:SE X e te)(h:ntt e=true:=by rfl):ST X e (tTru X.K te):=⟨qtruth ha.h h⟩
theorem qrange1'{tg:Expr}{ta:TA}(hg:Gl X "range")(hm:X.mg "range"=none)(ha:SA X [a] ta)(h:nst a=true:=by rfl):SI X tg (.Call (.Name "range" p) [a] [] pos) (zVy ta):=⟨qrange1 hg hm ha.h h⟩
theorem zQp(hN:X.N.Nodup)(hi:X.N[j]?=some x)(hx:Loc X.env.scope x)(hf:X.fn x=true\/X.env.scope.names.lookup x=some .local:=by first|exact .inl rfl|exact .inr rfl|assumption):SG X (.Name x pos) (gName j):=⟨zUm hN hi hx hf⟩
theorem pgs_nil':SGs X [] gNil:=⟨zUk⟩
theorem qgs'(h1:SG X tg g)(h2:SGs X ts gs)(h:nst tg=true:=by rfl):SGs X (tg::ts) (zW3 g gs):=⟨qgs h1.h h2.h h⟩
theorem qtup'{ts:List Expr}{n:Nat}(hc:X.calm=true)(h:SGs X ts gs)(hn:ts.length=n:=by rfl)(h1:ts.all nst=true:=by rfl):SG X (.Tuple ts k pos) (gTup X.K n gs):=⟨qtup hc h.h hn h1⟩
theorem qunl'{ts:List Expr}{n:Nat}(hc:X.calm=true)(h:SGs X ts gs)(hn:ts.length=n:=by rfl)(h1:ts.all nst=true:=by rfl):SG X (.Tuple ts k pos) (gLst X.K n gs):=⟨qunl hc h.h hn h1⟩
theorem zUl(ho:SE X o to)(hi:SE X i ti)(hs:PSet X ts)(h:nsl i=true:=by rfl):SG X (.Subscript o i pos) (gSub to ti ts):=by refine⟨zYa ho.h hi.h hs λv=>?_⟩;cases i <;> first|rfl|cases h
theorem pifs_nil':SIfs X [] tYes:=⟨zQl⟩
theorem zMw(hc:ST X c tA):SIfs X [c] tA:=⟨zQk hc.h⟩
theorem qlcomp'{ix:List Nat}{elt:Expr}{ifs:List Expr}{g:TG}{tt:TT}(hc:X.calm=true)(S:CompScope X own fre ix scope)(hi:SI X tg iter wi)
  (hg:∀cl C s H fp,SG (zAf X (own++fre) scope cl C s H fp) tg g) (ht:∀cl C s H fp,SIfs (zAf X (own++fre) scope cl C s H fp) ifs tt) (he:∀cl C s H fp,SE (zAf X (own++fre) scope cl C s H fp) elt te)
  (h:nse iter=true:=by rfl):SE X (.ListComp elt [⟨tg,iter,ifs,0⟩] scope pos) (zIb own ix wi g tt te):=⟨qlcomp hc S hi.h (λ_ _ _ _ _=>(hg _ _ _ _ _).h) (λ_ _ _ _ _=>(ht _ _ _ _ _).h) (λ_ _ _ _ _=>(he _ _ _ _ _).h) h⟩
theorem qsetc'{own fre:List Str}{ix:List Nat}{scope:Scope}{j:Nat}{pos':Pos}{tg elt iter:Expr}{ifs:List Expr}{wi:TI}{g:TG}{tt:TT}(hN:X.N.Nodup)(hix:X.N[j]?=some x)(hx:Loc X.env.scope x)
  (hc:X.calm=true) (S:CompScope X own fre ix scope) (hi:SI X tg iter wi)
  (hg:∀cl C s H fp,SG (zAf X (own++fre) scope cl C s H fp) tg g) (ht:∀cl C s H fp,SIfs (zAf X (own++fre) scope cl C s H fp) ifs tt) (he:∀cl C s H fp,SE (zAf X (own++fre) scope cl C s H fp) elt te)
  (hsw:swapsWith (.ListComp elt [⟨tg,iter,ifs,0⟩] scope cpos) (some (.Name x pos')) pos.line X.env=pure true:=by rfl) (h:nse iter=true:=by rfl) (hf:X.fn x=true\/X.env.scope.names.lookup x=some .local:=by first|exact .inl rfl|exact .inr rfl|assumption):
  SS X (.Assign [.Name x pos'] (.ListComp elt [⟨tg,iter,ifs,0⟩] scope cpos) pos) (tAsg (zIb own ix wi g tt te) (gName j)):=⟨qsetc hN hix hx hc S hi.h (λ_ _ _ _ _=>(hg _ _ _ _ _).h) (λ_ _ _ _ _=>(ht _ _ _ _ _).h) (λ_ _ _ _ _=>(he _ _ _ _ _).h) hsw h hf⟩
theorem qset'{j:Nat}{pos':Pos}(hN:X.N.Nodup)(hi:X.N[j]?=some x)(hx:Loc X.env.scope x)(he:SE X e te)(hf:X.fn x=true\/X.env.scope.names.lookup x=some .local:=by first|exact .inl rfl|exact .inr rfl|assumption)(h:nco e=true:=by rfl):
  SS X (.Assign [.Name x pos'] e pos) (tAsg te (gName j)):=⟨qset hN hi hx he.h hf h⟩
theorem qasgt'(he:SE X e te)(hg:SG X (.Tuple ts k tp) g)(h1:ntu e=true:=by rfl):SS X (.Assign [.Tuple ts k tp] e pos) (tAsg te g):=⟨qasgt he.h hg.h h1⟩
theorem qasgs'(he:SE X e te)(hg:SG X (.Subscript o i sp2) g)(h2:nco e=true:=by rfl):SS X (.Assign [.Subscript o i sp2] e pos) (tAsg te g):=⟨zSh he.h hg.h (zTt h2) (by cases e <;> rfl) rfl⟩
theorem zUg(he:SE X e te):SS X (.Return (some e) pos) (tRet te):=⟨zY4 he.h⟩
theorem zY5{ba bb:List Stmt}{t u:TS}(hc:ST X c tA)(ha:SSs X ba t)(hb:SSs X bb u):SS X (.If c ba bb pos) (tIfS tA t u):=⟨yBg hc.h ha.h hb.h⟩
theorem zMu{body:List Stmt}{t:TS}(hp:PassesOwn (model X.prog X.w) X.A X.env X.xe)(hc:ST X c tA)(hb:SSs X body t):SS X (.While c body [] pos) (zSa tA t):=⟨zQh hp hc.h hb.h⟩
theorem qfor'{tg iter:Expr}{body:List Stmt}{wi:TI}{g:TG}{t:TS}(hp:PassesOwn (model X.prog X.w) X.A X.env X.xe)(hc:X.calm=true)(hi:SI X tg iter wi)(hg:SG X tg g)(hb:SSs X body t)(h:nse iter=true:=by rfl):
  SS X (.For tg iter body [] pos) (tFor wi g t):=⟨qfor hp hc hi.h hg.h hb.h h⟩
theorem qexpr'(he:SE X e te)(h:nco e=true:=by rfl):SS X (.Expr e pos) (zTq te):=⟨qexpr he.h h⟩
theorem pss_nil':SSs X [] zXj:=⟨zUe⟩
theorem zJx{st:Stmt}{t:TS}(h:SS X st t):SSs X [st] t:=⟨zUd h.h⟩
theorem zMt{st:Stmt}{r:List Stmt}{t u:TS}(h1:SS X st t)(h2:SSs X r u):SSs X (st::r) (tSeq t u):=⟨zQg h1.h h2.h⟩
end
def BN(n:Nat)(x:Int):Prop:=x.natAbs<2 ^ n
theorem BN.bits{x:Int}(h:BN 5000 x):Builtin.Int.intBits x<=2 ^ 20:=by
 unfold Builtin.Int.intBits;split
 ·exact vN _
 ·rename_i hx;have h0:x.natAbs≠0:=by
   intro z;apply hx;have:x=0:=by omega
   rw[this];rfl
  have:=(Nat.log2_lt h0).mpr h
  omega
theorem BN.log{x:Int}(h:BN 5000 x):x.natAbs.log2<9000:=by
 by_cases h0:x.natAbs=0
 ·rw[h0];decide +kernel
 ·have:=(Nat.log2_lt h0).mpr h;lia
section
variable {X:Cx}
theorem zV5:OpR X (binaryOp .Mult) (rI (λi j=>BN 5000 i/\BN 5000 j) λi j=>.int (i*j)):=opI λ_ _ _ _ _ _ _ hc q=>mul_int q (IntMulOk.of_bits hc.1.bits hc.2.bits)
theorem zQz:OpR X (binaryOp .FloorDiv) (rI (λ_ j=>j≠0/\BN 5000 j) λi j=>.int (i.fdiv j)):=opI λ_ _ _ _ _ _ _ hc q=>floordiv_int hc.1 q (.inl (PyProof.noPylong_of_log2 hc.2.log))
end
noncomputable def dv (u l:Int):Int:=if l<0 then -(Int.gcd u l:Int)else(Int.gcd u l:Int)
noncomputable def fN (u l:Int):Int:=u.fdiv (dv u l)
structure ZipOwn (z TI TO i1 i2:Addr):Prop where
 TIz:TI≠z
 TOz:TO≠z
 i1z:i1≠z
 i2z:i2≠z
 TITO:TI≠TO
 TIi1:TI≠i1
 TIi2:TI≠i2
 TOi1:TO≠i1
 TOi2:TO≠i2
 i12:i1≠i2
theorem ZipOwn.apart{z TI TO i1 i2 a b:Addr}(D:ZipOwn z TI TO i1 i2)(ha:a ∉ [z,TI,TO,i1,i2])(hb:b ∉ [z,TI,TO,i1,i2]):ZipApart z TI TO i1 i2 a b:=by simp only[xr,xJ,xK,not_or]at ha hb;obtain⟨a1,a2,a3,a4,a5⟩:=ha;obtain⟨b1,b2,b3,b4,b5⟩:=hb;exact⟨D.TIz,D.TOz,D.i1z,D.i2z,D.TITO,D.TIi1,D.TIi2,D.TOi1,D.TOi2,D.i12,a1,a3,a4,a5,b1,b3,b4,b5⟩
end L2
namespace TS
open PySem
def KIt(b:Bool)(h:Heap)(i a:Addr)(k:Nat):Prop:=∃o,h.get? i=some o/\o.cls=.type (if b then "tuple_iterator" else "list_iterator")/\o.data=.fields #[.ref a,.int k 0]
def KSq(b:Bool)(h:Heap)(a:Addr)(xs:Array Value):Prop:=∃o,h.get? a=some o/\o.cls=.type (if b then "tuple" else "list")/\∃n,o.data=.seq xs n
theorem KIt.at{h h':Heap}(x:KIt b h i a k)(e:∀o,h.get? i=some o->h'.get? i=some o):KIt b h' i a k:=let ⟨o,ho,r⟩:=x;⟨o,e _ ho,r⟩
theorem KSq.at{h h':Heap}(x:KSq b h a xs)(e:∀o,h.get? a=some o->h'.get? a=some o):KSq b h' a xs:=let ⟨o,ho,r⟩:=x;⟨o,e _ ho,r⟩
theorem KIt.xb(x:KIt b h i a k)(e:Heap.ExtBut c h h')(n:i≠c):KIt b h' i a k:=x.at λo q=>e _ _ n q
theorem KSq.xb(x:KSq b h a xs)(e:Heap.ExtBut c h h')(n:a≠c):KSq b h' a xs:=x.at λo q=>e _ _ n q
section
variable {prog:Program}{w:World}{A:Around}{E:Value->Shared->Prop}{s:Shared}
theorem next_item{i:Nat}{Q:Value->Shared->Prop}(hit:KIt b s.heap it l i)(hl:KSq b s.heap l items)(hx:items[i]?=some x)
  (hQ:∀h',KIt b h' it l (i+1)->Heap.SameBut it s.heap h'->Q x { s with heap:=h' }):wpAny (model prog w) A (Builtin.SmallTypes.nextOf (.ref it)) Q E s:=by
 cases b with
 | false=>exact wpAny_nextOf_list_item hit hl hx hQ
 | true=>
  obtain⟨o,ho,hc,hd⟩:=id hit;obtain⟨ol,hol,_,nl,hdl⟩:=hl;have hT:s.TypeIs (.ref it) "tuple_iterator":=⟨o,ho,hc⟩;unfold Builtin.SmallTypes.nextOf;refine xa (vD hT uV (vA uV hT F.entry_tuple_iterator_next ?_ (F.args_tuple_iterator_next_1 _)));refine(show wpAny _ _ (field (.ref it) 0 >>= _) _ _ s from xa (xF ho hd rfl (show wpAny _ _ (if(Value.ref l == Value.none)=true then _ else _) _ _ s from ?_)));rw[xf (show ¬ ((Value.ref l == Value.none)=true)from xV)];refine(xa (xF ho hd rfl (xa (vw hol hdl ?_))));simp only[vT,hx];refine xa (wpAny_setField ho hd (by simp) (xg ⟨x,rfl,xg (hQ _ ⟨_,vF _ ho (Obj.isFreed_of_fields (uM hd _)),(Obj.cls_mapFields ..).trans hc,?_⟩ (Heap.SameBut.update ..))⟩));rw[uM hd];simp[rawInt]
theorem next_end{i:Nat}{Q:Value->Shared->Prop}(hh:A.handled=none)(hit:KIt b s.heap it l i)(hl:KSq b s.heap l items)(hx:items[i]?=none)
  (hE:∀h' e,Heap.ExtBut it s.heap h'->(∃o,h'.get? e=some o/\o.cls=.type "StopIteration")->E (.ref e) { s with heap:=h' }):wpAny (model prog w) A (Builtin.SmallTypes.nextOf (.ref it)) Q E s:=by
 cases b with
 | false=>exact wpAny_nextOf_list_end hh hit hl hx hE
 | true=>
  obtain⟨o,ho,hc,hd⟩:=id hit;obtain⟨ol,hol,_,nl,hdl⟩:=hl;have hT:s.TypeIs (.ref it) "tuple_iterator":=⟨o,ho,hc⟩;unfold Builtin.SmallTypes.nextOf;refine xa (vD hT uV (vA uV hT F.entry_tuple_iterator_next ?_ (F.args_tuple_iterator_next_1 _)));refine(show wpAny _ _ (field (.ref it) 0 >>= _) _ _ s from xa (xF ho hd rfl (show wpAny _ _ (if(Value.ref l == Value.none)=true then _ else _) _ _ s from ?_)));rw[xf (show ¬ ((Value.ref l == Value.none)=true)from xV)];refine(xa (xF ho hd rfl (xa (vw hol hdl ?_))));simp only[vT,hx];refine xa (wpAny_rule (xa (wpAny_setField ho hd (by simp) (xa ?_))));simp only[newExc,newTuple];refine xa (vq (xa (wpAny_of_eq (by first|rfl|(simp only[firstArgMember];rfl)) (vq ?_ (by size_fits)))) (by size_fits));simp only[raiseNew];refine xa (wpAny_handled ?_);rw[show A.in1.handled=none from hh];refine xa (xg (wpAny_throw ?_));exact hE _ _ (((Heap.SameBut.update ..).extBut.push _).push _) ⟨_,xD _ rfl,rfl⟩
theorem zTc{b1 b2:Bool}{k1 k2:Nat}{xs ys:Array Value}{x y a b:Value}{Q:Option Value->Shared->Prop}(D:ZipApart z TI TO i1 i2 l1 l2)
  (hz:IsZip s.heap z TI TO .none) (hTI:IsPair s.heap TI (.ref i1) (.ref i2)) (hTO:IsPair s.heap TO a b) (h1:KIt b1 s.heap i1 l1 k1) (h2:KIt b2 s.heap i2 l2 k2) (q1:KSq b1 s.heap l1 xs) (q2:KSq b2 s.heap l2 ys) (hx:xs[k1]?=some x) (hy:ys[k2]?=some y)
  (hQ:∀h',IsZip h' z TI TO (rawInt s.heap.objs.size)->IsPair h' TO x y->KIt b1 h' i1 l1 (k1+1)->KIt b2 h' i2 l2 (k2+1)->IsPair h' s.heap.objs.size x y->(∀c o,c≠z->c≠TO->c≠i1->c≠i2->s.heap.get? c=some o->h'.get? c=some o)->Q (some (.ref s.heap.objs.size)) { s with heap:=h' }):
  wpAny (model prog w) A (pyNext (.ref z)) Q E s:=by
 have hT:s.TypeIs (.ref z) "zip":=⟨_,hz,rfl⟩;unfold pyNext;refine xa (wpAny_attempt (vD hT vU (vA vU hT F.entry_zip_next ?_ (F.args_zip_next_1 _))));refine(show wpAny _ _ (field (.ref z) 2 >>= _) _ _ _ from xa (xF hz rfl rfl (xa (xF hz rfl rfl (xa (vw hTI rfl (xa ?_)))))));unfold Builtin.SmallTypes.ownedTupleIsFree;refine xa (xF hz rfl rfl (xg ?_));simp only[xW];refine xa (wpAny_rule (xa (xF hz rfl rfl (xa (uc hz (by simp) λg1 z1 s1=>xa ?_)))))
 replace z1:IsZip g1 z TI TO .ellipsis:=z1
 simp only[List.zipIdx_cons,List.zipIdx_nil,ua,uw];refine xa (xa (wpAny_onRaise (xa (next_item (h1.xb s1.extBut D.i1z) (q1.xb s1.extBut D.l1z) hx λg2 h12 s2=>xg ?_))));have T2:=s2.extBut _ _ D.TOi1 (s1.extBut _ _ D.TOz hTO);refine xa (vw T2 rfl (xa (wpAny_updateSeq_pair T2 λg3 T3 s3=>xa (wpAny_letGo (xg ?_)))))
 replace T3:IsPair g3 TO x b:=T3
 refine xa (xa (wpAny_onRaise (xa (next_item (((h2.xb s1.extBut D.i2z).xb s2.extBut D.i12.symm).xb s3.extBut D.TOi2.symm) (((q2.xb s1.extBut D.l2z).xb s2.extBut D.l2i1).xb s3.extBut D.l2TO) hy λg4 h24 s4=>xg ?_))));have T4:=s4.extBut _ _ D.TOi2 T3;refine xa (vw T4 rfl (xa (wpAny_updateSeq_pair T4 λg5 T5 s5=>xa (wpAny_letGo (xg (xg ?_))))))
 replace T5:IsPair g5 TO x y:=T5
 refine xa (vw T5 rfl (xa (wpAny_newTuple ?_)));have sz:g5.objs.size=s.heap.objs.size:=by rw[s5.1,s4.1,s3.1,s2.1,s1.1]
 have z5:=s5.extBut _ _ D.TOz.symm (s4.extBut _ _ D.i2z.symm (s3.extBut _ _ D.TOz.symm (s2.extBut _ _ D.i1z.symm z1)));have k5:∀c o,c≠z->c≠TO->c≠i1->c≠i2->s.heap.get? c=some o->g5.get? c=some o:=λc o c1 c2 c3 c4 e=>s5.extBut _ _ c2 (s4.extBut _ _ c4 (s3.extBut _ _ c2 (s2.extBut _ _ c3 (s1.extBut _ _ c1 e))))
 have a5:=((h12.xb s3.extBut D.TOi1.symm).xb s4.extBut D.i12).xb s5.extBut D.TOi1.symm;have b5:=h24.xb s5.extBut D.TOi2.symm;have zlt:=xn z5;refine(xa ?_);unfold Builtin.SmallTypes.ownedTupleHandOut;have z6:IsZip (g5.push { cls:=.type "tuple",data:=.seq #[x,y] }) z TI TO .ellipsis:=xm _ z5;refine xa (uc z6 (by simp) λg7 z7 s7=>?_)
 replace z7:IsZip g7 z TI TO (rawInt g5.objs.size):=z7
 refine uc z7 (by simp) λg8 z8 s8=>?_
 replace z8:IsZip g8 z TI TO (rawInt g5.objs.size):=z8
 have up:∀c o,c≠z->g5.get? c=some o->g8.get? c=some o:=λc o c1 e=>s8.extBut _ _ c1 (s7.extBut _ _ c1 (xm _ e))
 have T8:=s8.extBut _ _ (xX zlt) (s7.extBut _ _ (xX zlt) (xD _ rfl));rw[sz]at z8 T8;refine xg ⟨_,rfl,?_⟩;show wpAny _ _ (pure (some (Value.ref g5.objs.size))) _ _ _;rw[sz];exact xg (hQ g8 z8 (up _ _ D.TOz T5) (a5.at λo e=>up _ o D.i1z e) (b5.at λo e=>up _ o D.i2z e) T8 λc o c1 c2 c3 c4 e=>up c o c1 (k5 c o c1 c2 c3 c4 e))
theorem zX6{b1 b2:Bool}{k1 k2:Nat}{xs ys:Array Value}{a b:Value}{Q:Option Value->Shared->Prop}(hh:A.handled=none)(D:ZipApart z TI TO i1 i2 l1 l2)
  (hz:IsZip s.heap z TI TO .none) (hTI:IsPair s.heap TI (.ref i1) (.ref i2)) (hTO:IsPair s.heap TO a b) (h1:KIt b1 s.heap i1 l1 k1) (h2:KIt b2 s.heap i2 l2 k2) (q1:KSq b1 s.heap l1 xs) (q2:KSq b2 s.heap l2 ys) (hend:xs[k1]?=none\/ys[k2]?=none)
  (hQ:∀h',(∀c o,c≠z->c≠TO->c≠i1->c≠i2->s.heap.get? c=some o->h'.get? c=some o)->Q none { s with heap:=h' }):wpAny (model prog w) A (pyNext (.ref z)) Q E s:=by
 have hT:s.TypeIs (.ref z) "zip":=⟨_,hz,rfl⟩;unfold pyNext;have stop:∀(g:Heap) (e:Addr),(∀c o,c≠z->c≠TO->c≠i1->c≠i2->s.heap.get? c=some o->g.get? c=some o)->(∃o,g.get? e=some o/\o.cls=.type "StopIteration")->wpAny (model prog w) A (do
   let b <- isInstance (.ref e) (.type "StopIteration")
   if b=true then pure none else throw (.ref e)) Q E { s with heap:=g }:=λg e kp hz1=>by obtain⟨o,ho,hc⟩:=hz1;exact xa (uF ⟨o,ho,hc⟩ isSubtype_stop (xg (hQ _ kp)))
 refine xa (wpAny_attempt (vD hT vU (vA vU hT F.entry_zip_next ?_ (F.args_zip_next_1 _))));refine(show wpAny _ _ (field (.ref z) 2 >>= _) _ _ _ from xa (xF hz rfl rfl (xa (xF hz rfl rfl (xa (vw hTI rfl (xa ?_)))))));unfold Builtin.SmallTypes.ownedTupleIsFree;refine xa (xF hz rfl rfl (xg ?_));simp only[xW];refine xa (wpAny_rule (xa (xF hz rfl rfl (xa (uc hz (by simp) λg1 z1 s1=>xa ?_)))))
 replace z1:IsZip g1 z TI TO .ellipsis:=z1
 simp only[List.zipIdx_cons,List.zipIdx_nil,ua,uw];have hhi:=hh;refine xa (xa (wpAny_onRaise (xa ?_)));cases hx:xs[k1]? with
 | none=>
  refine next_end hhi (h1.xb s1.extBut D.i1z) (q1.xb s1.extBut D.l1z) hx λg2 e s2 he=>?_
  obtain⟨oe,hoe,hce⟩:=he;have z2:=s2 _ _ D.i1z.symm z1;have ne:e≠z:=λx=>by subst x;rw[z2]at hoe;cases hoe;simp at hce
  exact uc z2 (by simp) λg3 _ s3=>stop g3 e (λc o c1 _ c3 _ x=>s3.extBut _ _ c1 (s2 _ _ c3 (s1.extBut _ _ c1 x))) ⟨oe,s3.extBut _ _ ne hoe,hce⟩
 | some x=>
  have hy:ys[k2]?=none:=by rcases hend with h|h;rw[hx]at h;cases h;exact h
  refine next_item (h1.xb s1.extBut D.i1z) (q1.xb s1.extBut D.l1z) hx λg2 h12 s2=>xg ?_
  have T2:=s2.extBut _ _ D.TOi1 (s1.extBut _ _ D.TOz hTO);refine xa (vw T2 rfl (xa (wpAny_updateSeq_pair T2 λg3 T3 s3=>xa (wpAny_letGo (xg ?_)))));refine xa (xa (wpAny_onRaise (xa (next_end hhi (((h2.xb s1.extBut D.i2z).xb s2.extBut D.i12.symm).xb s3.extBut D.TOi2.symm) (((q2.xb s1.extBut D.l2z).xb s2.extBut D.l2i1).xb s3.extBut D.l2TO) hy λg4 e s4 he=>?_))));obtain⟨oe,hoe,hce⟩:=he;have z4:=s4 _ _ D.i2z.symm (s3.extBut _ _ D.TOz.symm (s2.extBut _ _ D.i1z.symm z1));have ne:e≠z:=λx=>by subst x;rw[z4]at hoe;cases hoe;simp at hce
  exact uc z4 (by simp) λg5 _ s5=>stop g5 e (λc o c1 c2 c3 c4 x=>s5.extBut _ _ c1 (s4 _ _ c4 (s3.extBut _ _ c2 (s2.extBut _ _ c3 (s1.extBut _ _ c1 x))))) ⟨oe,s5.extBut _ _ ne hoe,hce⟩
end
noncomputable abbrev itO (b:Bool) (l:Addr):Obj:={ cls:=.type (if b then "tuple_iterator" else "list_iterator"),data:=.fields #[.ref l,.int 0 0] }
section
variable {prog:Program}{w:World}{A:Around}{E:Value->Shared->Prop}{s:Shared}
theorem zSr{Q:Value->Shared->Prop}(q:KSq b s.heap l xs)(h:Q (.ref s.heap.objs.size) { s with heap:=s.heap.push (itO b l) }):wpAny (model prog w) A (pyIter (.ref l)) Q E s:=by
 cases b with
 | false=>exact wpAny_pyIter_list q h
 | true=>exact wpAny_pyIter_tuple q h
end
noncomputable abbrev kz1 (b1 b2:Bool) (h:Heap) (l1 l2:Addr):Heap:=(h.push (itO b1 l1)).push (itO b2 l2)
noncomputable abbrev kz2 (b1 b2:Bool) (h:Heap) (l1 l2:Addr):Heap:=(kz1 b1 b2 h l1 l2).push { cls:=.type "tuple",data:=.seq #[.ref h.objs.size,.ref (h.push (itO b1 l1)).objs.size] }
noncomputable abbrev kz3 (b1 b2:Bool) (h:Heap) (l1 l2:Addr):Heap:=(kz2 b1 b2 h l1 l2).push { cls:=.type "tuple",data:=.seq #[.none,.none] }
noncomputable abbrev kz4 (b1 b2:Bool) (h:Heap) (l1 l2:Addr):Heap:=(kz3 b1 b2 h l1 l2).push { cls:=.type "zip",data:=.fields #[.none,.bool false,.bool false,.ref (kz1 b1 b2 h l1 l2).objs.size,.ref (kz2 b1 b2 h l1 l2).objs.size] }
theorem zZ9(b1 b2:Bool)(l1 l2:Addr)(xs ys:Array Value):Meets (Builtin.«zip.__new__» ⟨[.type "zip",.ref l1,.ref l2],[]⟩) (λ_ R s=>KSq b1 s.heap l1 xs/\KSq b2 s.heap l2 ys/\R (.ok (.ret (.ref (kz3 b1 b2 s.heap l1 l2).objs.size))) { s with heap:=kz4 b1 b2 s.heap l1 l2 }):=
 .of_wp λprog w A R s h=>by
  obtain⟨hp,g,d,tk,os⟩:=s;obtain⟨q1,q2,h⟩:=h;have hsub:=sub_zip;have L1:=q1;have L2:KSq b2 (Shared.heap ⟨hp.push (itO b1 l1),g,d,tk,os⟩) l2 ys:=q2.at λo e=>xm _ e
  wp_walk using zSr L1,zSr L2
  exact⟨_,rfl,h⟩
section
variable {prog:Program}{w:World}{A:Around}{E:Value->Shared->Prop}{s:Shared}
theorem zVp{Q:Value->Shared->Prop}(q1:KSq b1 s.heap l1 xs)(q2:KSq b2 s.heap l2 ys)
  (h:∀h',IsZip h' (s.heap.objs.size+4) (s.heap.objs.size+2) (s.heap.objs.size+3) .none->IsPair h' (s.heap.objs.size+2) (.ref s.heap.objs.size) (.ref (s.heap.objs.size+1))->
   IsPair h' (s.heap.objs.size+3) .none .none->KIt b1 h' s.heap.objs.size l1 0->KIt b2 h' (s.heap.objs.size+1) l2 0->(∀c o,s.heap.get? c=some o->h'.get? c=some o)->Q (.ref (s.heap.objs.size+4)) { s with heap:=h' }):
  wpAny (model prog w) A (call (.type "zip") [.ref l1,.ref l2]) Q E s:=by
 refine callType_new F.called_zip (by decide) (F.typeCall_zip_2 _ _) (F.newCall_zip_2 _ _) (λobj=>F.args_object_init_3 obj _ _) F.entry_zip_new (zZ9 b1 b2 l1 l2 xs ys) ⟨q1,q2,?_⟩;have z0:(s.heap.push (itO b1 l1)).objs.size=s.heap.objs.size+1:=vv ..;have z1:(kz1 b1 b2 s.heap l1 l2).objs.size=s.heap.objs.size+2:=by rw[vv,z0]
 have z2:(kz2 b1 b2 s.heap l1 l2).objs.size=s.heap.objs.size+3:=by rw[vv,z1]
 have z3:(kz3 b1 b2 s.heap l1 l2).objs.size=s.heap.objs.size+4:=by rw[vv,z2]
 have g5:(kz4 b1 b2 s.heap l1 l2).get? (kz3 b1 b2 s.heap l1 l2).objs.size=some _:=xD _ rfl;have g4:(kz4 b1 b2 s.heap l1 l2).get? (kz2 b1 b2 s.heap l1 l2).objs.size=some _:=xm _ (xD _ rfl);have g3:(kz4 b1 b2 s.heap l1 l2).get? (kz1 b1 b2 s.heap l1 l2).objs.size=some _:=xm _ (xm _ (xD _ rfl));have g2:(kz4 b1 b2 s.heap l1 l2).get? (s.heap.push (itO b1 l1)).objs.size=some (itO b2 l2):=xm _ (xm _ (xm _ (xD _ (by cases b2 <;> rfl))));have g1:(kz4 b1 b2 s.heap l1 l2).get? s.heap.objs.size=some (itO b1 l1):=xm _ (xm _ (xm _ (xm _ (xD _ (by cases b1 <;> rfl)))));have gk:∀c o,s.heap.get? c=some o->(kz4 b1 b2 s.heap l1 l2).get? c=some o:=λc o x=>xm _ (xm _ (xm _ (xm _ (xm _ x))))
 show _/\_;rw[z3]at g5 ⊢;rw[z1,z2]at g5;rw[z1,z0]at g3;rw[z2]at g4;rw[z0]at g2;exact⟨⟨_,g5,rfl⟩,h _ g5 g3 g4 ⟨_,g1,rfl,rfl⟩ ⟨_,g2,rfl,rfl⟩ gk⟩
end
end TS
namespace L2
open PySem PySem.Spec PyProof.Rows TS
noncomputable def hoK (b:Bool) (xs:List V):HO:=if b then .tup xs else .lst xs
theorem Inv.kSq{H:Hp}{s:Shared}{xs:List V}(I:Inv X pins σ H s)(h:H a=some (hoK b xs)):∃its:List Value,Vals xs its/\KSq b s.heap a its.toArray/\xs.length<=sizeLine:=by
 cases b with
 | false=>obtain⟨its,r,p,z⟩:=I.list (SqL.of h);exact⟨its,r,p.isList,z⟩
 | true=>obtain⟨its,r,p,z⟩:=I.tuple (SqT.of h);exact⟨its,r,p,z⟩
end L2
namespace TS
open PySem PyProof.Rows Builtin Builtin.Str
section
variable {prog:Program}{w:World}{A:Around}{E:Value->Shared->Prop}{s:Shared}
theorem zKt{x y:Str}{t u:Tok}{Q:Value->Shared->Prop}(hy:(y.length == 0)=false)(hsz:x.length+2<=sizeLine)
  (h:∀(l:List (Str × Tok)) k,l.map (·.1)=Txt.split x y->Q (.ref s.heap.objs.size) { s with heap:=s.heap.push { cls:=.type "list",data:=.seq (strValues l).toArray },toks:=k }):wpAny (model prog w) A (call (.builtin "str.split") [.str x t,.str y u]) Q E s:=by
 have hn:(partsBetween x (occurrences x y 0 x.length (x.length+1)) y.length).length<=sizeLine:=by have e1:=StrLaws.occ_length_le x y 0 x.length (x.length+1);rw[length_partsBetween];lia
 cases h1:(decide (x.length<y.length) || decide (strKind x<strKind y))with
 | false=>
  cases hf:(occurrences x y 0 x.length (x.length+1)).isEmpty with
  | false=>
   refine vM uW (typeIs_str _ _ _) PySem.F.entry_str_split (PySem.F.args_str_split_2 _ _) (meets_str_split_sep x y t u h1 hy hf (by nofun) hn) (?_);rw[strsFrom_eq];exact h (numbered s.toks _) _ ((numbered_texts _ _).trans ((xf (ne_true_of_eq_false h1)).trans (xf (ne_true_of_eq_false hf))).symm)
  | true=>exact vM uW (typeIs_str _ _ _) PySem.F.entry_str_split (PySem.F.args_str_split_2 _ _) (meets_str_split_not_found x y t u h1 hy hf) (h [(x,t)] s.toks ((xf (ne_true_of_eq_false h1)).trans (xc hf)).symm)
 | true=>exact vM uW (typeIs_str _ _ _) PySem.F.entry_str_split (PySem.F.args_str_split_2 _ _) (meets_str_split_cannot_occur x y t u h1) (h [(x,t)] s.toks (xc h1).symm)
end
end TS
namespace L2
open PySem PySem.Spec PyProof.Rows TS
section
variable {X:Cx}{K:PySem.W.Frag}
noncomputable def rLeS:R2:=λx y H Q=>∃i j,x=.str i/\y=.str j/\Q (.bl (!decide (j.cps.toList<i.cps.toList))) H
theorem zN5:OpR X (compareOp .LtE) rLeS:=by intro pins s σ H x y v u Q I rx ry h;obtain⟨i,j,rfl,rfl,q⟩:=h;obtain⟨t,rfl⟩:=rx;obtain⟨t',rfl⟩:=ry;exact P.le_str ⟨.bl _,H,I,rfl,q⟩
def yB8:List V->Hp->VK->Prop:=λxs H Q=>∃x n,xs=[.str x]/\PySem.intText? x=some n/\x.length<=640/\Q (.int n) H
theorem zP6:zB9 X (.type "int") yB8:=by intro pins s σ H xs us Q I r h;obtain⟨x,n,rfl,hn,hl,q⟩:=h;obtain⟨u,rfl,t,rfl⟩:=vals1 r;exact PySem.W.KIN.call_text hn hl ⟨.int n,H,I.tok _,⟨_,rfl⟩,q⟩
theorem zMe:∀{ys:List Str}{us:List Value},Vals (ys.map V.str) us->StrsAre us ys
 | [],_,.nil=>.nil
 | y::ys,_,.cons ⟨t,e⟩ r=>by subst e;exact .cons _ _ (zMe r)
theorem zGt:∀(l:List (Str × Tok)),Vals ((l.map (·.1)).map V.str) (strValues l)
 | []=>.nil
 | (x,t)::l=>.cons ⟨t,rfl⟩ (zGt l)
def rJoin(K:PySem.W.Frag):V->List V->Hp->VK->Prop:=λx vs H Q=>∃sep a ys,x=.str sep/\vs=[.ref a]/\SqL K H a (ys.map V.str)/\sep.length<=16/\(ys.map (·.length)).sum+ys.length<=1048576/\Q (.str (Txt.join sep ys)) H
theorem zVj(hK:X.K=K:=by rfl):MtR X "str.join" (rJoin K):=by subst hK;intro pins s σ H x xs v us Q I rx r h;obtain⟨sep,a,ys,rfl,rfl,hq,h1,h2,q⟩:=h;obtain⟨t,rfl⟩:=rx;obtain⟨u,rfl,ru⟩:=vals1 r;cases ru;obtain⟨its,rv,pl,hz⟩:=I.list hq;exact join_listW pl.isList (by simpa using zMe rv) h1 h2 λt' k=>⟨.str _,H,I.tok _,⟨_,rfl⟩,q⟩
def zXu:V->List V->Hp->VK->Prop:=λx vs H Q=>∃z y,x=.str z/\vs=[.str y]/\0<y.length/\z.length<=100000/\(Txt.split z y).length<=sizeLine/\∀l,H l=none->Q (.ref l) (upd H l (.lst ((Txt.split z y).map V.str)))
theorem zR7:MtR X "str.split" zXu:=by
 intro pins s σ H x xs v us Q I rx r h;obtain⟨z,y,rfl,rfl,h0,h1,h2,q⟩:=h;obtain⟨t,rfl⟩:=rx;obtain⟨u,rfl,t',rfl⟩:=vals1 r;refine zKt (by simp;lia) (by rw[sizeLine_eq];lia) λl k e=>?_
 have e':(Txt.split z y).map V.str=(l.map (·.1)).map V.str:=by rw[e]
 refine⟨.ref s.heap.objs.size,_,I.laid (λb ob q=>xm _ q) (xh _) ?_,rfl,q _ (I.hok.fresh (xh _))⟩;exact⟨by rw[xp];exact h2,_,0,by rw[e'];exact zGt l,xD _ rfl⟩
def zXt:V->List V->Hp->VK->Prop:=λx vs H Q=>∃z y,x=.str z/\vs=[.str y]/\Q (.bl (Txt.startswith z y)) H
theorem zG7:MtR X "str.startswith" zXt:=by intro pins s σ H x xs v us Q I rx r h;obtain⟨z,y,rfl,rfl,q⟩:=h;obtain⟨t,rfl⟩:=rx;obtain⟨u,rfl,t',rfl⟩:=vals1 r;exact SC.startswith ⟨.bl _,H,I,rfl,q⟩
noncomputable def Its (x:Str):It:=⟨λi _=>i<x.cps.size,λi H v H'=>H'=H/\∃c,x.cps[i]?=some c/\v=.str ⟨#[c]⟩,λi _=>x.cps.size<=i⟩
theorem zPx(it:Addr)(x:Str)(t:Tok):Turn P w K tg (Its x) [it] it (λi h=>i<=x.cps.size/\h.IsStrIter it "str_ascii_iterator" x t i) where
 mem:=by simp
 obj:=λi h st b hb=>by
  have e:b=it:=by simpa using hb
  subst e;obtain⟨_,o,e,c,d⟩:=st;exact⟨o,e,λv z=>by rw[d]at z;cases z⟩
 keep:=λi h h' st k=>⟨st.1,let ⟨o,ho,r⟩:=st.2;⟨o,k it (by simp) o ho,r⟩⟩
 item:=by
  intro X hP hw hK hc i pins s σ H E I hf st hg;subst hP hw hK;obtain⟨f0,f1,f2,f3,f4,f5⟩:=hf it (by simp);have hg:i<x.cps.size:=hg;refine wpAny_pyNext_ascii_item st.2 (c:=x.cps[i]) (by simp[hg]) λh' st' sb=>?_
  have I1:=I.turned (t':=s.toks+1) (λb o hb e=>(sb.2 b hb).trans e) f0 f1 f3 f4 f5;obtain⟨o,e,c,d⟩:=id st';exact⟨_,rfl,zO2 e c d (by decide) ⟨.str ⟨#[x.cps[i]]⟩,H,I1,⟨_,rfl⟩,⟨rfl,_,by simp[hg],rfl⟩,⟨hg,st'⟩,λb hb=>(hf b hb).1⟩⟩
 done:=by intro X hP hw hK hc i pins s σ H E I hf st hg;subst hP hw hK;obtain⟨f0,f1,f2,f3,f4,f5⟩:=hf it (by simp);have hg:x.cps.size<=i:=hg;exact wpAny_pyNext_ascii_end (I.ok.hd hc) st.2 (by simp[hg]) λh' eb=>⟨rfl,I.turned (λb o hb e=>eb b o hb e) f0 f1 f3 f4 f5⟩
 self:=λ_ _ _ _ _ st h=>wpAny_pyIter_striter_ascii st.2 h
end
end L2
namespace TX
open PySem PySem.Builtin PySem.Builtin.Str
noncomputable abbrev ls (x:Str):List Nat:=x.cps.toList
theorem str_ext(h:ls x=ls y):x=y:=by cases x;cases y;exact congrArg Str.mk (Array.toList_inj.mp h)
noncomputable def jn (c:Nat):List (List Nat)->List Nat
 | []=>[]
 | a::l=>a++l.flatMap λp=>c::p
theorem fold_ls(g:Array Nat):∀(l:List Str) (a:Array Nat),(l.foldl (λacc p=>acc++g++p.cps) a).toList=a.toList++l.flatMap λp=>g.toList++p.cps.toList
 | [],a=>by simp
 | p::l,a=>by rw[List.foldl_cons,fold_ls g l];simp
theorem glued_ls(c:Nat)(ps:List Str):ls (glued ⟨#[c]⟩ ps)=jn c (ps.map ls):=by
 cases ps with
 | nil=>rfl
 | cons p ps=>
  show((List.drop 1 (p::ps)).foldl (λacc q=>acc++(#[c]:Array Nat)++q.cps) ((p::ps).headD Str.empty).cps).toList=_;rw[fold_ls];simp only[jn,xt,List.flatMap_map,List.drop_one,List.tail_cons,List.headD_cons];rfl
theorem zZp(c:Nat):∀(l:List (List Nat)),(l.flatMap λp=>c::p).takeWhile (· != c)=[]
 | []=>rfl
 | p::l=>by simp
theorem zS8{c:Nat}{a b:List Nat}(h:c ∉ a)(hb:b.takeWhile (· != c)=[]):(a++b).takeWhile (· != c)=a:=by
 induction a with
 | nil=>simpa using hb
 | cons x a ih=>
  have hx:(x != c)=true:=by simp;exact λe=>h (by simp[e])
  rw[vG,List.takeWhile_cons,xc hx,ih λm=>h (.tail _ m)]
theorem zSp{c:Nat}:∀(l m:List (List Nat)) (a b:List Nat),(∀p∈a::l,c ∉ p)->(∀p∈b::m,c ∉ p)->(a++l.flatMap λp=>c::p)=(b++m.flatMap λp=>c::p)->a=b/\l=m
 | l,m,a,b,hl,hm,e=>by
  have ha:a=b:=by have:=congrArg (List.takeWhile (· != c)) e;rw[zS8 (hl a (.head _)) (zZp c l),zS8 (hm b (.head _)) (zZp c m)]at this;exact this
  subst ha;have e2:=List.append_cancel_left e;cases l with
  | nil=>
   cases m with
   | nil=>exact⟨rfl,rfl⟩
   | cons q m=>simp at e2
  | cons p l=>
   cases m with
   | nil=>simp at e2
   | cons q m=>
    simp only[vP,vG]at e2;have e3:=(ud e2).2;obtain⟨r1,r2⟩:=zSp l m p q (λx hx=>hl x (.tail _ hx)) (λx hx=>hm x (.tail _ hx)) e3;exact⟨rfl,by rw[r1,r2]⟩
termination_by l=>l.length
theorem join_split(x:Str)(c:Nat):glued ⟨#[c]⟩ (Txt.split x ⟨#[c]⟩)=x:=by
 unfold Txt.split;split
 ·exact str_ext (by rw[glued_ls];simp[jn])
 ·split
  ·exact str_ext (by rw[glued_ls];simp[jn])
  ·exact StrLaws.glued_between_self x ⟨#[c]⟩ _
theorem split_of{c:Nat}(h:ls x=jn c ((p::ps).map ls))(hc:∀q∈p::ps,c ∉ ls q):Txt.split x ⟨#[c]⟩=p::ps:=by
 have hs:=join_split x c;have hf:=StrLaws.split_free x c;cases hq:Txt.split x ⟨#[c]⟩with
 | nil=>
  have:=PyProof.Rows.split_pos x ⟨#[c]⟩;rw[hq]at this;simp at this
 | cons q qs=>
  rw[hq]at hs hf;have e:jn c ((q::qs).map ls)=jn c ((p::ps).map ls):=by rw[<- glued_ls,hs,h]
  obtain⟨e1,e2⟩:=zSp (qs.map ls) (ps.map ls) (ls q) (ls p) (λz hz=>by
    rcases xr.mp hz with rfl|hz
    ·exact hf q (.head _)
    ·obtain⟨y,hy,rfl⟩:=xE.mp hz;exact hf y (.tail _ hy)) (λz hz=>by
    rcases xr.mp hz with rfl|hz
    ·exact hc p (.head _)
    ·obtain⟨y,hy,rfl⟩:=xE.mp hz;exact hc y (.tail _ hy)) e
  have inj:∀(a b:List Str),a.map ls=b.map ls->a=b:=λa b=>by
   induction a generalizing b with
   | nil=>intro h;cases b with|nil=>rfl|cons _ _=>simp at h
   | cons x a ih=>
    intro h;cases b with
    | nil=>simp at h
    | cons y b=>
     simp only[xt,List.cons.injEq]at h;rw[str_ext h.1,ih b h.2]
  rw[str_ext e1,inj _ _ e2]
noncomputable def dg (m:Nat):List Nat:=(Nat.toDigits 10 m).map Char.toNat
theorem zIv{m:Nat}(h:10<=m):dg m=dg (m / 10)++[(Nat.digitChar (m % 10)).toNat]:=by have hm:m % 10<10:=vV m (by decide);have t:Nat.toDigits 10 (m / 10)++Nat.toDigits 10 (m % 10)=Nat.toDigits 10 (10*(m / 10)+m % 10):=Nat.toDigits_append_toDigits (by decide) (by nofun) hm;rw[Nat.div_add_mod]at t;unfold dg;rw[<- t,xP,Nat.toDigits_of_lt_base hm];rfl
theorem zKd{m:Nat}(h:m<10):dg m=[(Nat.digitChar m).toNat]:=by unfold dg;rw[Nat.toDigits_of_lt_base h];rfl
theorem dc:∀d:Nat,d<10->(Nat.digitChar d).toNat=48+d:=by decide
theorem dg_all(m:Nat):∀c∈dg m,48<=c/\c<=57:=by
 induction m using Nat.strongRecOn with
 | _ m ih=>
  by_cases h:m<10
  ·rw[zKd h];intro c hc;rw[xx.mp hc,dc m h];omega
  ·rw[zIv (by omega)];intro c hc;rcases xH.mp hc with z|z
   ·exact ih (m / 10) (by omega) c z
   ·rw[xx.mp z,dc _ (vV m (by decide))];have:=vV m (show 0<10 by decide);omega
theorem dg_len:∀(k m:Nat),1<=k->m<10 ^ k->1<=(dg m).length/\(dg m).length<=k
 | 0,m,h,_=>by nofun
 | 1,m,_,h=>by rw[zKd (by simpa using h)];simp
 | k+2,m,_,h=>by
  by_cases c:m<10
  ·rw[zKd c];simp
  ·rw[zIv (by nofun),xk];have:=dg_len (k+1) (m / 10) (by nofun) (by rw[Nat.div_lt_iff_lt_mul (by decide)];rw[Nat.pow_succ]at h;exact h);simp;lia
theorem dg_head(m:Nat):∃c r,dg m=c::r/\(m=0->r=[]/\c=48)/\(m≠0->c≠48):=by
 induction m using Nat.strongRecOn with
 | _ m ih=>
  by_cases h:m<10
  ·refine⟨_,[],zKd h,λz=>⟨rfl,by rw[z];rfl⟩,λz=>by rw[dc m h];lia⟩
  ·obtain⟨c,r,e,_,h2⟩:=ih (m / 10) (by nofun);exact⟨c,r++[_],by rw[zIv (by nofun),e];rfl,λz=>by nofun,λ_=>h2 (by nofun)⟩
noncomputable def nm (n:Int):List Nat:=if n<0 then 45::dg n.natAbs else dg n.natAbs
theorem zR5(n:Int):ls (Str.ofString (toString n))=nm n:=by
 cases n with
 | ofNat m=>
  have:nm (Int.ofNat m)=dg m:=by unfold nm;rw[xf (by simp)];rfl
  rw[this];exact PySem.W.KIN.signs_num m
 | negSucc m=>
  have e0:nm (Int.negSucc m)=45::dg (m+1):=by unfold nm;rw[xc (Int.negSucc_lt_zero m)];rfl
  rw[e0];show(Str.ofString ("-"++Nat.repr (m+1))).cps.toList=_;rw[PyProof.Rows.signs_ofString,String.toList_append,xP];unfold dg;rw[Nat.toList_repr];rfl
theorem nm_reads{n:Int}(h:n.natAbs<10 ^ 20):intText? (Str.ofString (toString n))=some n:=by
 have hl:=dg_len 20 n.natAbs (by decide) h;have hne:dg n.natAbs≠[]:=λe=>by rw[e]at hl;simp at hl
 have lz:(Str.ofString (toString n)).length=(nm n).length:=by rw[<- zR5];simp[Str.length]
 have vb:=PySem.W.KIN.val_back n.natAbs;unfold nm at lz;by_cases c:n<0
 ·rw[xc c]at lz;have e:=intText_neg (by rw[show(Str.ofString (toString n)).cps.toList=nm n from zR5 n];unfold nm;rw[xc c]) (dg_all _) hne (by rw[lz];simp;lia);rw[e];have  :NumText.digitsVal (dg n.natAbs)=n.natAbs:=vb;rw[this];congr 1;lia
 ·rw[xf c]at lz;have en:(Str.ofString (toString n)).cps.toList=dg n.natAbs:=by rw[show(Str.ofString (toString n)).cps.toList=nm n from zR5 n];unfold nm;rw[xf c]
  have e:=intText_digits (by rw[en];exact dg_all _) (by rw[en];exact hne) (by rw[lz];lia);rw[e,en];have  :NumText.digitsVal (dg n.natAbs)=n.natAbs:=vb;rw[this];congr 1;lia
end TX
namespace L2
open PySem PySem.Spec PyProof.Rows TS
section
variable {X:Cx}{K:PySem.W.Frag}
theorem zQt(hg:Gl X x)(hm:X.mg x=some u)(r:RelV v u)(hd:(x == ("__debug__":Str))=false:=by decide):SE X (.Name x pos) (tC v):=⟨zUt hg hm r hd⟩
variable {σ:St}{H:Hp}{Q:VK}
end
end L2
namespace TX
open PySem PySem.Builtin PySem.Builtin.Str TS L2
noncomputable def tn (n:Int):Str:=Str.ofString (toString n)
theorem nm_sign{n:Int}{c:Nat}(h:c∈nm n):c=45\/(48<=c/\c<=57):=by
 unfold nm at h;split at h
 ·rcases xr.mp h with z|z
  ·exact .inl z
  ·exact .inr (dg_all _ c z)
 ·exact .inr (dg_all _ c h)
theorem ls_tn(n:Int):ls (tn n)=nm n:=zR5 n
end TX
namespace L2
open PySem PySem.Spec PyProof.Rows
structure Caps (H:Hp) (h:Heap) (fre:List Str) (cl:List (Str × Addr)) (gs:List V):Prop where
 len:fre.length=gs.length
 has:∀(i:Nat) (x:Str) (v:V),fre[i]?=some x->gs[i]?=some v->∃c u,cl.lookup x=some c/\h.IsCell c (some u)/\RelV v u
 only:∀x c,cl.lookup x=some c->x∈fre
 inj:∀x y c,cl.lookup x=some c->cl.lookup y=some c->x=y
 free:∀x c,cl.lookup x=some c->H c=none
def zGr(c:Addr)(q:Str):Heap->Prop:=λh=>h.CodeRec (.ref c) q
inductive zPo (H:Hp) (P:Addr) (ps:Array Value) (q:Str) (pos:Pos) (c:Addr):Hp->Prop where
 | hit:codeAmong pos ps.toList=some (.ref c)->H c=some (.ext (zGr c q))->zPo H P ps q pos c H
 | miss:codeAmong pos ps.toList=none->H c=none->c≠P->zPo H P ps q pos c (upd (upd H P (.tbl (ps++#[rawInt pos.line,rawInt pos.col,.ref c]))) c (.ext (zGr c q)))
structure Noted (fs:List Addr) (e:Addr) (old:Option Addr) (h h':Heap):Prop where
 keep:∀b o,b ∉ fs->b≠e->old≠some b->h.get? b=some o->h'.get? b=some o
 slot:∀b o,b∈fs->h.get? b=some o->∃sl,h'.get? b=some { o with slots:=sl }
 exc:∀oe vs,h.get? e=some oe->oe.data=.fields vs->h'.get? e=some (oe.mapFields (·.setIfInBounds 1 (.ref h.objs.size)))
 tb:∃oT ts,h'.get? h.objs.size=some oT/\oT.data=.fields ts/\ts[3]?=some .none
def Tbk(h:Heap)(e:Addr)(vs:Array Value):Option Addr->Prop
 | none=>vs[1]?=some .none
 | some T=>vs[1]?=some (.ref T)/\T≠e/\∃oT ts,h.get? T=some oT/\oT.data=.fields ts/\ts[3]?=some .none
section
variable {M:Model}{A:Around}{E:Value->Shared->Prop}{s:Shared}{base:Heap}{env:Env}{outer:List Env}{L e:Addr}{oe:Obj}{vs:Array Value}{Q:Unit->Shared->Prop}
theorem zHi{head:Value}{hadNext:Bool}(hfr:A.frames=some (env::outer))(hl:s.heap.FunFrames base (env::outer))(hf:env.frame=some L)(he:s.heap.get? e=some oe)(hd:oe.data=.fields vs)(hsz:1<vs.size)
  (h:∀h',Noted (frs (env::outer)) e none s.heap h'->Q () { s with heap:=h' }):
  wpAny M A (do let a <- frameOf env;let pl <- entryPlaceOf L hadNext;let b <- EntryCells.newEntry head a .none (rawInt L) .none pl;setField (.ref e) 1 b) (λ_ s'=>wpAny M A (setFlight (.ref e) none) Q E s') E s:=by
 have nfr:∀b∈frs (env::outer),∃o,s.heap.get? b=some o/\∀ws,o.data≠.fields ws:=λb hb=>(hl.mem hb).2
 have hene:e ∉ frs (env::outer):=λhm=>by
  obtain⟨o,ho,hnf⟩:=nfr e hm;rw[he]at ho;cases ho;exact hnf vs hd
 refine xa (wpAny_frameOf_fun hfr hl hf λh1 hs1=>?_);refine xa (wpAny_entryPlaceOf λpl hpl=>?_);unfold EntryCells.newEntry newFields;refine xa (vq ?_ (hpl.sizeOk5 _ _ _ _ _));have z1:h1.objs.size=s.heap.objs.size:=hs1.1;have he1:h1.get? e=some oe:=(hs1.2.1 e hene).trans he;generalize hN:({ cls:=.type "traceback",dict:=none,data:=.fields ([head,.ref L,.none,rawInt L,.none]++(if pl.isEmpty then List.replicate 6 Value.none else pl)).toArray }:Obj)=oN;have dN:oN.data=.fields ([head,.ref L,.none,rawInt L,.none]++(if pl.isEmpty then List.replicate 6 Value.none else pl)).toArray:=by rw[<- hN]
 have fN:oN.isFreed=false:=by rw[<- hN];rfl
 have he2:=xm oN he1;refine wpAny_setField he2 hd hsz ?_;have hTe:h1.objs.size≠e:=xX (xn he1);have hd3:=uM hd (·.setIfInBounds 1 (Value.ref h1.objs.size));have he3:=vF (Obj.mapFields (·.setIfInBounds 1 (Value.ref h1.objs.size))) he2 (Obj.isFreed_of_fields hd3);have hT3:=(vh (h1.push oN) (Obj.mapFields (·.setIfInBounds 1 (Value.ref h1.objs.size))) (xA hTe)).trans (xD h1 fN);unfold setFlight;refine xa (xF he3 hd3 (x:=.ref h1.objs.size) (by simp[hsz]) ?_);rw[xc (show(Value.ref h1.objs.size != Value.none)=true from by simp)];refine wpAny_setField hT3 dN (by simp only[xu,xk,xv,vo] <;> lia) (h _ ?_);have keep:∀b o,b≠e->h1.get? b=some o->(((h1.push oN).update e (Obj.mapFields (·.setIfInBounds 1 (Value.ref h1.objs.size)))).update h1.objs.size (Obj.mapFields (·.setIfInBounds 3 ((none:Option Addr).elim Value.none λf=>rawInt f)))).get? b=some o:=λb o hbe hb=>by
  have hbT:h1.objs.size≠b:=xX (xn hb);rw[vh _ _ hbT,vh _ _ (xA hbe)];exact xm _ hb
 refine⟨λb o hb hbe _ eb=>keep b o hbe ((hs1.2.1 b hb).trans eb),λb o hb eb=>?_,λoe' vs' ee _=>?_,?_⟩
 ·obtain⟨sl,q⟩:=hs1.2.2 b o eb;exact⟨sl,keep b _ (λz=>hene (z ▸ hb)) q⟩
 ·rw[he]at ee;cases ee;rw[vh _ _ hTe,<- z1];exact he3
 ·rw[<- z1];refine⟨_,_,vF _ hT3 (Obj.isFreed_of_fields (uM dN _)),uM dN _,?_⟩;first|(simp;done)|(rcases hpl with rfl|⟨_,_,_,_,_,_,_,rfl⟩ <;> simp)
theorem zR2(hfr:A.frames=some (env::outer))(hl:s.heap.FunFrames base (env::outer))(hf:env.frame=some L)(he:s.heap.get? e=some oe)(hd:oe.data=.fields vs)(ht:Tbk s.heap e vs old)
  (h:∀h',Noted (frs (env::outer)) e old s.heap h'->Q () { s with heap:=h' }):wpAny M A (noteFrame (.ref e) env) (λ_ s'=>wpAny M A (setFlight (.ref e) none) Q E s') E s:=by
 unfold noteFrame;simp only[hf];cases old with
 | none=>
  have h1:vs[1]?=some .none:=ht;refine xa (xF he hd h1 ?_);rw[xf (by decide)];exact zHi hfr hl hf he hd (Array.getElem?_eq_some_iff.mp h1).1 h
 | some T=>
  obtain⟨h1,hTe,oT,ts,hT,hdT,h3⟩:=ht;refine xa (xF he hd h1 ?_);rw[xc (show(Value.ref T != Value.none)=true from by simp)];refine xa (xF hT hdT h3 ?_);rw[xf (show ¬ ((Value.none == rawInt L)=true)from by simp[rawInt])];refine xa (wpAny_setField hT hdT (Array.getElem?_eq_some_iff.mp h3).1 ?_);have other:∀b,b≠T->(s.heap.update T (Obj.mapFields (·.setIfInBounds 3 Value.none))).get? b=s.heap.get? b:=λb hb=>vh _ _ (xA hb)
  have sz:(s.heap.update T (Obj.mapFields (·.setIfInBounds 3 Value.none))).objs.size=s.heap.objs.size:=Heap.size_after_update ..;have rec':∀b o,s.heap.get? b=some o->(∀ws,o.data≠.fields ws)->b≠T:=λb o hb hnf q=>by
   rw[q,hT]at hb;cases hb;exact hnf ts hdT
  refine zHi (s:={ s with heap:=s.heap.update T (Obj.mapFields (·.setIfInBounds 3 Value.none)) }) hfr (hl.of_keeps λb o hb hnf=>⟨o,(other b (rec' b o hb hnf)).trans hb,rfl⟩) hf ((other e (xA hTe)).trans he) hd (Array.getElem?_eq_some_iff.mp h1).1 λh' N=>h h' ?_
  refine⟨λb o hb hbe ho eb=>N.keep b o hb hbe (by simp) ((other b λz=>ho (by rw[z])).trans eb),λb o hb eb=>?_,λoe' vs' ee dd=>?_,?_⟩
  ·obtain⟨o',q,hnf⟩:=(hl.mem hb).2;rw[eb]at q;cases q;exact N.slot b o hb ((other b (rec' b o eb hnf)).trans eb)
  ·have:=N.exc oe' vs' ((other e (xA hTe)).trans ee) dd;rw[show({ s with heap:=s.heap.update T (Obj.mapFields (·.setIfInBounds 3 Value.none)) }:Shared).heap.objs.size=s.heap.objs.size from sz]at this;exact this
  ·have:=N.tb;rw[show({ s with heap:=s.heap.update T (Obj.mapFields (·.setIfInBounds 3 Value.none)) }:Shared).heap.objs.size=s.heap.objs.size from sz]at this;exact this
theorem zNk(hfr:A.frames=some (env::outer))(hl:s.heap.FunFrames base (env::outer))(hf:env.frame=some L)(he:s.heap.get? e=some oe)(hd:oe.data=.fields vs)(ht:Tbk s.heap e vs old)
  (h:∀h',Noted (frs (env::outer)) e old s.heap h'->Q () { s with heap:=h' }):wpAny M A (leaving env (.ref e)) Q E s:=by
 unfold leaving;exact xa (zR2 hfr hl hf he hd ht h)
end
section
variable {prog:Program}{w:World}{A:Around}{E:Value->Shared->Prop}{h:Heap}{g:Array GenState}{d:Drawn}{t:Nat}{os:OsState}
variable {nm q:Str}{C N:Addr}{bs bm bmB:List Value}{hdct:Bool}{sn:List Str}{sub:List Value}{ab:Bool}{col:Option Bool}{dd:Option Addr}{k0 k1 k2 k3 k5:Option Value}{B newId initId:String}
theorem zEg(F:ExcBaseFacts B newId initId bmB)(T:OwnTail h bmB bm){mN:Str->Option Value}{rest:List Value}{fI:Addr}{oI:Obj}{Q:Fin->Shared->Prop}
  (hC:h.get? C=some (excClassObj nm q C N bs bm hdct sn sub ab col dd k0 k1 k2 k3 k5 newId)) (hn:h.Ns N mN) (hi:mN "__init__"=some (.ref fI)) (hfI:h.get? fI=some oI) (hfc:oI.cls=.type "function")
  (hq:∀h',Heap.MadeExcOf h h' (h.objs.size+1) (.ref C) rest->wpAny (model prog w) A (call (.ref fI) (.ref (h.objs.size+1)::rest)) (λr s'=>r=.none/\Q (.done (.ret (.ref (h.objs.size+1)))) s') E ⟨h',g,d,t,os⟩) (hrest:rest.length<=sizeLine):
  wpAny (model prog w) A (Builtin.«type.__call__» ⟨.ref C::rest,[]⟩) Q E ⟨h,g,d,t,os⟩:=by
 repeat (first|with_reducible refine uN hC ?_|with_reducible refine wpAny_madeBy_exc hC ?_|wp_step)
 refine codeAny_call_builtin_code (Code.quiet_builtin _ F.quiet) (wpAny_check_new_subT F T hC ?_);refine codeAny_exc_new_subT F T hC ?_ hrest;show wpAny _ _ _ _ _ _;generalize hoT:({ cls:=.type "tuple",data:=.seq rest.toArray }:Obj)=oT;generalize hoE:({ cls:=.ref C,data:=.fields #[.ref h.objs.size,.none,.none,.none,.bool false,.none] }:Obj)=oE;have fT:oT.isFreed=false:=by rw[<- hoT];rfl
 have fE:oE.isFreed=false:=by rw[<- hoE];rfl
 have kp:∀b o,h.get? b=some o->((h.push oT).push oE).get? b=some o:=λb o e=>xm _ (xm _ e)
 have hC1:=kp _ _ hC;have hn1:((h.push oT).push oE).Ns N mN:=let ⟨o,es,ep,e,r⟩:=hn;⟨o,es,ep,kp _ _ e,r⟩;have hget:((h.push oT).push oE).get? (h.objs.size+1)=some oE:=by
  have:=xD (h.push oT) fE
  rwa[vv]at this
 have hcE:oE.cls=.ref C:=by rw[<- hoE]
 have hcC:(Value.ref C::bm).contains (.ref C)=true:=by simp
 have T1:=T.keeps kp;unfold isInstance
 repeat (first|(with_reducible refine uN hget ?_;rw[hcE])|(with_reducible refine wpAny_isSubtype_exc hC1 ?_;rw[hcC])|wp_step)
 show wpAny _ _ (typeLookup (.ref C) _) _ _ _;refine wpAny_typeLookup_tail hC1 hn1 T1 F.mroIs F.init.lookup ?_;rw[hi];refine xS (xa ?_);unfold bindSpecial;refine xa (v7 (T:="function") ⟨_,kp _ _ hfI,hfc⟩ ?_);rw[xc (by decide)];refine xg (xa (vd (hq _ ⟨kp,Heap.get?_none_of_le (ub _),h.objs.size,by rw[hoE];exact hget,Heap.get?_none_of_le (xh _),?_⟩) (λr s' hr=>?_) λ_ _ x=>x))
 ·rw[hoT];exact xm _ (xD h fT)
 ·obtain⟨rfl,hQ⟩:=hr
  wp_walk
  exact hQ
theorem zLx(F:ExcBaseFacts B newId initId bmB)(T:OwnTail h bmB bm){mN:Str->Option Value}{rest:List Value}{fI:Addr}{oI:Obj}{Q:Value->Shared->Prop}
  (hC:h.get? C=some (excClassObj nm q C N bs bm hdct sn sub ab col dd k0 k1 k2 k3 k5 newId)) (hn:h.Ns N mN) (hi:mN "__init__"=some (.ref fI)) (hfI:h.get? fI=some oI) (hfc:oI.cls=.type "function")
  (hq:∀h',Heap.MadeExcOf h h' (h.objs.size+1) (.ref C) rest->wpAny (model prog w) (A.under (.builtin "type.__call__" ⟨.ref C::rest,[]⟩)) (call (.ref fI) (.ref (h.objs.size+1)::rest)) (λr s'=>r=.none/\Q (.ref (h.objs.size+1)) s') E ⟨h',g,d,t,os⟩) (hrest:rest.length<=sizeLine):
  wpAny (model prog w) A (call (.ref C) rest) Q E ⟨h,g,d,t,os⟩:=by
 have f1:=tc_lookup;have f2:=tc_bind (.ref C);have hT:(⟨h,g,d,t,os⟩:Shared).TypeIs (.ref C) "type":=⟨_,hC,rfl⟩;refine wpAny_call (codeAny_of_tree ?_);show wpAny _ _ (callAny (.ref C) _) _ _ _
 repeat (any_goals (first|assumption|with_reducible refine uN hC ?_|wp_step))
 refine⟨rfl,?_⟩;exact codeAny_call_builtin_at (Code.quiet_builtin _ (by decide +kernel)) entry_typeCall (wpAny_check_type_call_sub hC (zEg F T hC hn hi hfI hfc (λh' hm=>hq h' hm) hrest))
end
theorem zKy(self:Value):refuseLoop self "__setattr__" [.type "ValueError",.type "Exception",.type "BaseException",.type "object"]=pure ():=by kernel_rfl
noncomputable def zIh:List Value->Bool
 | .ref _::r=>zIh r
 | l=>l == [.type "ValueError",.type "Exception",.type "BaseException",.type "object"]
theorem zDy(self:Value):∀{l:List Value},zIh l=true->refuseLoop self "__setattr__" l=pure ()
 | [],e=>by cases e
 | v::r,e=>by
  cases v with
  | ref c=>rw[refuseLoop_ref];exact zDy self (l:=r) e
  | _=>have e:=vt.mp e;rw[e];exact zKy self
noncomputable def zO5 (K:PySem.W.Frag) (C:Addr):Bool:=(PySem.W.clsIn K C).any λcd=>zIh cd.mro
structure ClsE (K:PySem.W.Frag) (C:Addr):Prop where
 ga:PySem.W.findIn K (.ref C) "__getattribute__"=some (some (.builtin "BaseException.__getattribute__"))
 gn:PySem.W.findIn K (.ref C) "__getattr__"=some none
 hd:PySem.W.hasDictIn K C=true
 po:zO5 K C=true
 sa:PySem.W.findIn K (.ref C) "__setattr__"=some (some (.builtin "object.__setattr__"))
 mb:PySem.W.mroIn K C (.type "BaseException")=some true
 mo:PySem.W.mroIn K C (.type "object")=some true
section
open PySem.W
variable {prog:Program}{w:World}{A:Around}{E:Value->Shared->Prop}{s:Shared}{K:PySem.W.Frag}{x C:Addr}{ox:Obj}{od:Option Obj}{name:Str}{R:Result->Shared->Prop}
theorem zN3{tk:Tok}{v:Value}(X:K.In s.heap)(I:InstAt s.heap x ox C od)(c:ClsE K C)(ht:takerIn K C name=some r)
  (h:∀b,wpAny (model prog w) A.in1 (match r with|some a=>Builtin.ObjectAttr.setByDescriptor a (.ref x) v|none=>Builtin.ObjectAttr.storeInOwnDict (.ref x) (.ref C) (.str name tk) name v b)
   (λfin s'=>match fin with|.done f=>R (.ok f) s'|.again c'=>c'.quiet=true/\codeAny (model prog w) A c' R s') (λe s'=>R (.error e) s') s):
  codeAny (model prog w) A (.call (.builtin "object.__setattr__") ⟨[.ref x,.str name tk,v],[]⟩) R s:=by
 have SF:=PySem.F.store_object;obtain⟨cd,hc,ho⟩:=any_some c.po;have sub:Looks (model prog w) s.heap (isInstance (.ref x) (.type "object")) true:=I.type.andThen (looks_mroIn X c.mo);refine codeAny_call_builtin SF.slot.plain SF.entry (@check_slot (model prog w) _ _ s "object.__setattr__" "object" "__setattr__" (.ref x) [.str name tk,v] [] _ SF.kind SF.split sub (SF.args (.ref x) (.str name tk) v) ?_);obtain⟨attr,ha,hr⟩:=Option.bind_eq_some_iff.mp ht;have hm:Looks (model prog w) s.heap (mroOf (.ref C)) cd.mro:=(looks_clsIn X hc).andThen .now;have L3:Looks (model prog w) s.heap (Builtin.ObjectAttr.storeTaker? attr) r:=by
  cases attr with
  | none=>cases hr;exact .now
  | some a=>
   obtain⟨b,hb,rfl⟩:=Option.map_eq_some_iff.mp hr;refine(looks_takesIn X hb).andThen ?_;cases b <;> exact .now
 rw[osa_eq,refuse_eq];refine xa (xa (I.type.here (xa (hm.here ?_))));rw[zDy _ ho];exact xg (xa (I.type.here (xa ((looks_findIn X ha).here (xa (L3.here (h _)))))))
end
section
variable {prog:Program}{w:World}{A:Around}{E:Value->Shared->Prop}{s:Shared}{K:PySem.W.Frag}{e C:Addr}{oe:Obj}{vs:Array Value}{name:Str}{v:Value}
theorem zTz{Q:Unit->Shared->Prop}(X:K.In s.heap)(he:s.heap.get? e=some oe)(hc:oe.cls=.ref C)(hdn:oe.dict=none)(hdt:oe.data=.fields vs)
  (c:ClsE K C) (ht:PySem.W.takerIn K C name=some none)
  (h:∀h',h'.get? e=some { oe with dict:=some s.heap.objs.size }->h'.Ns1 s.heap.objs.size (λy=>if y=name then some v else none)->(∀b o,b≠e->s.heap.get? b=some o->h'.get? b=some o)->Q () { s with heap:=h',toks:=s.toks+2 }):
  wpAny (model prog w) A (setAttr (.ref e) name v) Q E s:=by
 obtain⟨cls,dict,data,slots⟩:=oe;simp only at hc hdn hdt;subst hc hdn hdt;have J:PySem.W.InstAt s.heap e ⟨.ref C,none,.fields vs,slots⟩ C none:=⟨he,rfl,rfl,trivial⟩;refine PySem.W.set_plain X J c.sa (zN3 (s:={ s with toks:=s.toks+1 }) (r:=none) X J c ht λb=>?_);obtain⟨cd,hcd,hd'⟩:=PySem.W.any_some c.hd;refine xa (xg (xa (xa (wpAny_loadPart he (xa (PySem.W.Looks.here (s:={ s with toks:=s.toks+1 }) (PySem.W.looks_clsIn X hcd) ?_))))));rw[hd'];rw[xf (by simp)];show wpAny _ _ (alloc { cls:=.type "dict",data:=.dict #[] } >>= _) _ _ _;refine xa (wpAny_alloc ?_);have he1:=xm ({ cls:=.type "dict",data:=.dict #[] }:Obj) he;refine xa (wpAny_update he1 ?_);show wpAny _ _ (pure (some _)) _ _ _;refine xg (xa (xg (xa ?_)));have hne:e≠s.heap.objs.size:=xy (xn he);have hd1:((s.heap.push ({ cls:=.type "dict",data:=.dict #[] }:Obj)).update e λo=>{ o with dict:=some s.heap.objs.size }).get? s.heap.objs.size=some { cls:=.type "dict",data:=.dict #[] }:=
  (vh _ _ hne).trans (xD _ rfl)
 have he2:((s.heap.push ({ cls:=.type "dict",data:=.dict #[] }:Obj)).update e λo=>{ o with dict:=some s.heap.objs.size }).get? e=some ⟨.ref C,some s.heap.objs.size,.fields vs,slots⟩:=vF _ he1 rfl;have n1:((s.heap.push ({ cls:=.type "dict",data:=.dict #[] }:Obj)).update e λo=>{ o with dict:=some s.heap.objs.size }).Ns1 s.heap.objs.size λ_=>none:=.of_empty ⟨_,_,_,hd1,rfl,λx hx=>by simp at hx,λx=>by simp[nsFind,findBy]⟩
 refine wpAny_nsSet1 (s:={ s with heap:=_,toks:=s.toks+1 }) n1 λh' hn2 hs2=>?_
 obtain⟨oD,esD,epD,hoD,hdD,hcD⟩:=hn2.count (PySem.Within.cons (ns:=[]) name v λx hx=>absurd rfl hx);refine xa (wpAny_lookBehind hoD (by rw[hdD];exact pastItsLine_dict (xq hcD (show 1<=sizeLine+1 by decide))) ?_);refine xg (h h' ((hs2.2 e hne).trans he2) hn2 λb o hb eb=>?_);have hbn:b≠s.heap.objs.size:=xy (xn eb);rw[hs2.2 b hbn,vh _ _ (xA hb)];exact xm _ eb
end
def XO(a C:Addr)(dx:Option Addr)(fr:Bool):Heap->Prop:=λh=>∃vs sl,h.get? a=some ⟨.ref C,dx,.fields vs,sl⟩/\(1<vs.size/\vs[2]?=some .none)/\(fr=true->vs[1]?=some .none)
section
variable {P:Program}{w:World}{H:Hp}{h:Heap}{a C:Addr}{dx:Option Addr}{fr:Bool}
theorem XO.ok(x:XO a C dx fr h):ObjOk P w H h a (.ext (XO a C dx fr)):=⟨x,let ⟨_,_,e,_⟩:=x;⟨_,e⟩,λ_ _ ⟨vs,sl,e,z⟩ k=>⟨vs,sl,k _ e,z⟩⟩
end
section
variable {X:Cx}{pins:List (Addr × Obj)}{σ:St}{H:Hp}{s:Shared}
theorem Inv.more{s0:Shared}(I0:Inv X pins σ H0 s0)(hf:s0.heap.objs.size<=f)(I:Inv X pins σ H s)(n:H f=none)(ho:ObjOk X.prog X.w (upd H f o) s.heap f o):Inv X pins σ (upd H f o) s:=by
 have n0:=xq I0.sz hf;have old:∀b ob,X.s₀.heap.get? b=some ob->b≠f:=λb ob e=>xy (xw (xn e) n0)
 have kp:∀b ob,H b=some ob->upd H f o b=some ob:=λb ob e=>by rw[zA9 (zAe e n)];exact e
 obtain⟨_,nl,_,_,nc,np⟩:=I0.fpOk (H':=H) hf n;refine⟨I.ok,I.os,I.bare,⟨I.base.keep,I.base.slot,λb ob e m hx=>?_,I.base.there,λb xs e=>kp _ _ (I.base.tups b xs e),λb ob u e=>kp _ _ (I.base.frzs b ob u e),λb ps e=>?_⟩,I.loc,I.cell,?_,λx c e=>?_,λp hp=>?_,λb ob e=>?_,I.len⟩
 ·rw[zA9 (old b ob e)];exact I.base.free b ob e m hx
 ·obtain⟨m,q⟩:=I.base.tbls b ps e;exact⟨m,kp _ _ q⟩
 ·rw[zA9 nl.symm];exact I.free
 ·rw[zA9 (nc x c e)];exact I.freeC x c e
 ·obtain⟨e,m,r⟩:=I.pin p hp;exact⟨e,by rw[zA9 (np p hp)];exact m,r⟩
 ·by_cases z:b=f
  ·subst z;rw[zAb]at e;cases e;exact ho
  ·rw[zA9 z]at e;exact(I.hok b ob e).stay (λ_ _ _ q=>q) (λ_ q=>kp _ _ q) λ_ _ q=>kp _ _ q
section
variable {A:Around}{E:Value->Shared->Prop}{a C:Addr}{f:Str}{fr:Bool}
theorem zTx{Q:Unit->Shared->Prop}(I:Inv X pins σ H s)(e:H a=some (.ext (XO a C none fr)))(c:ClsE X.K C)(n:NoAttr X.K C f)(ry:RelV y u)
  (h:∀s' dx,H dx=none->dx≠a->Inv X pins σ (upd (upd H a (.ext (XO a C (some dx) fr))) dx (.xd [(f,y)])) s'->Q () s'):wpAny (model X.prog X.w) A (setAttr (.ref a) f u) Q E s:=by
 obtain⟨⟨vs,sl,he,hz⟩,_⟩:=I.hok a _ e;have hne:s.heap.objs.size≠a:=xX (xn he);have fsh:H s.heap.objs.size=none:=I.hok.fresh (xh _);refine zTz I.kIn he rfl rfl rfl c n.taker λh' e' n' k'=>h _ s.heap.objs.size fsh hne ?_
 have I1:Inv X pins σ (upd H a (.ext (XO a C (some s.heap.objs.size) fr))) { s with heap:=h',toks:=s.toks+2 }:=I.write (x:=a) (e:=a) (by rw[e];exact True.intro) (.inl rfl) (λb o hb z=>k' b o hb z) ⟨_,e'⟩ (XO.ok ⟨vs,sl,e',hz⟩);refine Inv.more I (xh _) I1 (by rw[zA9 hne];exact fsh) ⟨_,n',λg=>?_⟩;show RelO (List.lookup g [(f,y)]) (if g=f then some u else none);by_cases z:g=f
 ·have hb:(g == f)=true:=vt.mpr z;simp only[List.lookup,hb,xc z];exact ry
 ·have hb:(g == f)=false:=beq_eq_false_iff_ne.mpr z;simp only[List.lookup,hb,xf z];exact True.intro
end
end
noncomputable def zHg (K:PySem.W.Frag) (C fI:Addr) (bmB:List Value) (newId:String):Bool:=(match K.lookup C with
 | some ⟨.type "type",_,.cls cd,sl⟩=>(match cd.mro,sl.toList with
  | .ref C'::bm,[_,_,_,_,some (.builtin n),_]=>C' == C && n == newId && !cd.hasDel && PySem.W.tailIn K bmB bm && PySem.W.nsOkIn K cd.ns && PySem.W.nsIn K cd.ns "__init__" == some (some (.ref fI))
  | _,_=>false)
 | _=>false) && PySem.W.typeIn K (.ref fI) == some (.type "function")
theorem yBr{K:PySem.W.Frag}{h:Heap}{mN:Str->Option Value}(X:K.In h)(G:h.Ns N mN)(e:PySem.W.nsIn K N n=some (some v)):mN n=some v:=by
 obtain⟨ob,es,ep,at_,dt,-,fd⟩:=G;unfold PySem.W.nsIn at e;split at e
 ·rename_i lk;have z:=X _ _ lk;rw[at_]at z;cases z;cases dt;split at e
  ·rename_i fnd;cases e;rw[<- fd,nsFind,findBy,<- Array.find?_toList,fnd];rfl
  ·split at e <;> cases e
 ·cases e
theorem zRq{K:PySem.W.Frag}(X:K.In h)(q:zHg K C fI bmB newId=true):
  ∃bm N nm qn bs hd sn sub ab col dd k0 k1 k2 k3 k5,h.get? C=some (excClassObj nm qn C N bs bm hd sn sub ab col dd k0 k1 k2 k3 k5 newId)/\h.Ns N (h.nsMap N)/\h.nsMap N "__init__"=some (.ref fI)/\OwnTail h bmB bm:=by
 unfold zHg at q;rw[xl]at q
 replace q:=q.1
 split at q
 ·rename_i dd cd sl ho;split at q
  ·rename_i C' bm k0 k1 k2 k3 n k5 hm hs;simp only[xl,vt,vQ]at q;obtain⟨⟨⟨⟨⟨rfl,rfl⟩,hdel⟩,ht⟩,hok⟩,hni⟩:=q;obtain⟨nm,bs,mro,ns,qn,hd,sn,sub,ab,col,del⟩:=cd;dsimp only at hm hdel hok hni;subst hm hdel;have hsl:sl=#[k0,k1,k2,k3,some (.builtin n),k5]:=by
    obtain⟨l⟩:=sl;simp only at hs;rw[hs]
   subst hsl;have hn:h.Ns ns (h.nsMap ns):=.of_isNs (PySem.W.isNs_of_in X hok);exact⟨bm,ns,nm,qn,bs,hd,sn,sub,ab,col,dd,k0,k1,k2,k3,k5,X _ _ ho,hn,yBr X hn hni,PySem.W.tail_of_in X ht⟩
  ·cases q
 ·cases q
noncomputable def zHh (K:PySem.W.Frag) (C:Addr):Bool:=match K.lookup C with
 | some ⟨.type "type",_,.cls cd,sl⟩=>(match cd.mro,sl.toList with
  | .ref C'::bm,[_,_,_,_,some (.builtin _),_]=>C' == C && !cd.hasDel && bm.contains (.type "BaseException")
  | _,_=>false)
 | _=>false
theorem zO6{K:PySem.W.Frag}(X:K.In h)(q:zHh K C=true):
  ∃bm N nm qn bs hd sn sub ab col dd k0 k1 k2 k3 k5 newId,h.get? C=some (excClassObj nm qn C N bs bm hd sn sub ab col dd k0 k1 k2 k3 k5 newId)/\bm.contains (.type "BaseException")=true:=by
 unfold zHh at q;split at q
 ·rename_i dd cd sl ho;split at q
  ·rename_i C' bm k0 k1 k2 k3 n k5 hm hs;simp only[xl,vt,vQ]at q;obtain⟨⟨rfl,hdel⟩,hB⟩:=q;obtain⟨nm,bs,mro,ns,qn,hd,sn,sub,ab,col,del⟩:=cd;dsimp only at hm hdel;subst hm hdel;obtain⟨l⟩:=sl;simp only at hs;subst hs;exact⟨bm,ns,nm,qn,bs,hd,sn,sub,ab,col,dd,k0,k1,k2,k3,k5,n,X _ _ ho,hB⟩
  ·cases q
 ·cases q
section
variable {X:Cx}{CX:CXT}{k:Nat}{f C:Addr}{fd:FuncData}{ps:List Str}{sp:Sp}{E:XK}{x:Str}{p pos:Pos}{e:Expr}{es:List Expr}{t:TA}{B newId initId:String}{bmB:List Value}
theorem zU0{pins:List (Addr × Obj)}{σ:St}{H:Hp}{s:Shared}{Q:VK}{us:List Value}{vs:List V}(FB:ExcBaseFacts B newId initId bmB)(M:zHg X.K C f bmB newId=true)(F:FnOk X.prog X.w X.K X.mg X.base CX k f fd ps sp)(hr:Room (k+1) X.A)(hb:Binds X.K fd ps [])
  (hx:Passes CX X E) (I:Inv X pins σ H s) (r:Vals vs us) (hz:us.length<=1000)
  (h:∀a,H a=none->sp (.ref a::vs) (upd H a (.ext (XO a C none true))) (λv H2=>v=.non/\Q (.ref a) H2) E):
  wpAny (model X.prog X.w) X.A (call (.ref C) us) (EP X pins σ Q) X.xe s:=by
 have hq:=h (s.heap.objs.size+1) (I.hok.fresh (ub _));have ft:PySem.W.typeIn X.K (.ref f)=some (.type "function"):=by unfold zHg at M;rw[xl]at M;exact vt.mp M.2
 obtain⟨bm,N,nm,qn,bs,hd,sn,sub,ab,col,dd,k0,k1,k2,k3,k5,hC,hn,hi,T⟩:=zRq I.kIn M;obtain⟨oI,hoI,hcI⟩:∃oI,s.heap.get? f=some oI/\oI.cls=.type "function":=by
  have ft:(X.K.lookup f).map (·.cls)=some (.type "function"):=ft;cases e:X.K.lookup f with
  | none=>rw[e]at ft;cases ft
  | some o=>rw[e]at ft;exact⟨o,I.kIn _ _ e,by simpa using ft⟩
 have r2:Vals (V.ref (s.heap.objs.size+1)::vs) (Value.ref (s.heap.objs.size+1)::us):=.cons rfl r;have hl:(Value.ref (s.heap.objs.size+1)::us++[]).length=ps.length:=by rw[xY,<- r2.length];exact F.len _ _ _ _ hq
 refine zLx FB T hC hn hi hoI hcI (λh' m=>?_) (xq hz (by decide));obtain⟨tt,ht,_,_⟩:=m.there;have I2:Inv X pins σ (upd H (s.heap.objs.size+1) (.ext (XO (s.heap.objs.size+1) C none true))) { s with heap:=h' }:=I.laid (t':=s.toks) m.keeps (ub _) (XO.ok ⟨_,_,ht,⟨show 1<6 by decide,rfl⟩,λ_=>rfl⟩);refine wpAny_call (codeAny_mono (F.run _ X.stack _ _ ⟨Value.ref (s.heap.objs.size+1)::us,[]⟩ (Value.ref (s.heap.objs.size+1)::us) _ _ E (hr.make C us []) (I2.env0.make C us []) (by have:=hb { s with heap:=h' } (Value.ref (s.heap.objs.size+1)::us) I2.kIn hl;rwa[xY]at this) r2 hq) λr s' hq'=>?_);cases r with
 | error e=>exact hx pins σ _ _ e s' I2 hq'
 | ok fl=>
  cases fl with
  | ret u=>
   obtain⟨v,H',I3,rv,ev,q3⟩:=I2.after hq';subst ev;exact⟨rv,V.ref (s.heap.objs.size+1),H',I3,rfl,q3⟩
  | next=>exact False.elim hq'
  | brk=>exact False.elim hq'
  | cont=>exact False.elim hq'
end
section
variable {X:Cx}{e o value:Expr}{f:Str}{pos pos':Pos}{te ta tv:TE}{a C:Addr}
noncomputable def sXF (K:PySem.W.Frag) (ta tv:TE) (f:Str):TS:=λD σ H=>tv σ H λy H1=>ta σ H1 λx H2=>∃a C fr,x=.ref a/\H2 a=some (.ext (XO a C none fr))/\ClsE K C/\NoAttr K C f /\
 ∀dx,H2 dx=none->dx≠a->D.nx σ (upd (upd H2 a (.ext (XO a C (some dx) fr))) dx (.xd [(f,y)]))
theorem yBe(ha:PE X o ta)(hv:PE X value tv)(hs:swapsWith value (some (.Attribute o f pos')) pos.line X.env=pure false):PS X (.Assign [.Attribute o f pos'] value pos) (sXF X.K ta tv f):=by intro pins s σ H D I h;refine plainObj_wpAny_Assign_Attribute (thn (hv pins s σ H _ I h) λu s1 ⟨y,H1,I1,ry,q⟩=>thn (ha pins s1 σ H1 _ I1 q) λov s2 hq1=>?_) hs;obtain⟨x,H2,I2,rx,a,C,fr,ex,ea,c,n,q2⟩:=hq1;subst ex;obtain rfl:ov=Value.ref a:=rx;exact zTx I2 ea c n ry λs3 dx h1 h2 I3=>⟨σ,_,I3,q2 dx h1 h2⟩
noncomputable def sRs (K:PySem.W.Frag) (te:TE) (Z:Addr->Hp->Prop):TS:=λ_ σ H=>te σ H λx H1=>∃a C dx,x=.ref a/\H1 a=some (.ext (XO a C dx true))/\zHh K C=true/\Z a H1
theorem yBf{Z:Addr->Hp->Prop}(he:PE X e te)(hc:X.calm=true)(hZ:∀pins σ H s a,Inv X pins σ H s->Z a H->X.xe (.ref a) s):PS X (.Raise (some e) none pos) (sRs X.K te Z):=by
 intro pins s σ H D I h;rw[arm_exec_Raise];refine xa (uj ?_);simp only[evalOpt,Option.map];unfold raiseStmt;dsimp only;refine xa (xa (thn (he pins s σ H _ I h) λu s1 ⟨x,H1,I1,rx,a,C,dx,ex,ea,hsub,z⟩=>xa (uj (xg ?_))));subst ex;obtain rfl:u=Value.ref a:=rx;obtain⟨⟨vs,sl,ha,hz,hf⟩,_⟩:=I1.hok a _ ea;have hf:=hf rfl;obtain⟨bm,N,nm,qn,bs,hd,sn,sub,ab,col,dd,k0,k1,k2,k3,k5,newId,hC,hB⟩:=zO6 I1.kIn hsub;have hcB:(Value.ref C::bm).contains (.type "BaseException")=true:=by rw[List.contains_cons,hB,Bool.or_true]
 have fin:=hZ pins σ H1 s1 a I1 z;obtain⟨hp,g,d,tk,os⟩:=s1
 repeat (first|with_reducible refine uN ha ?_|with_reducible refine uN hC ?_|(with_reducible refine wpAny_isSubtype_exc hC ?_;rw[hcB])|wp_step)
 rw[hf];refine xg ?_;rw[xf (by decide)];exact xg (wpAny_raiseNew_none (I.ok.hd hc) fin)
end
section
variable {X:Cx}{pins:List (Addr × Obj)}{σ:St}{H:Hp}{s:Shared}{a C:Addr}{dx old:Option Addr}{fr:Bool}{h':Heap}
def Own(X:Cx):Prop:=X.stack=X.env::X.outer/\X.env.frame=some X.env.locals
theorem Own.frs{X:Cx}(o:Own X):L2.frs X.stack=X.env.locals::X.fs:=by rw[o.1];show List.filterMap (·.frame) (X.env::X.outer)=_;rw[uS,o.2];rfl
def yB0(X:Cx)(pins:List (Addr × Obj))(H:Hp)(old:Option Addr):Prop:=∀T,old=some T->FpOk X pins H T
theorem Inv.noted(I:Inv X pins σ H s)(ow:Own X)(ea:H a=some (.ext (XO a C dx fr)))(N:Noted (frs X.stack) a old s.heap h')(ho:yB0 X pins H old):Inv X pins σ (upd H a (.ext (XO a C dx false))) { s with heap:=h' }:=by
 have na:∀b,H b=none->b≠a:=λb n z=>by rw[z,ea]at n;cases n
 have frn:=I.stkFree;have keepT:∀c o u,H c=some o->c≠a->s.heap.get? c=some u->h'.get? c=some u:=λc o u hc hca e=>N.keep c u (λz=>by rw[frn c z]at hc;cases hc) hca (λz=>by rw[(ho c z).1]at hc;cases hc) e
 have up:∀b o,H b=some o->b≠a->upd H a (.ext (XO a C dx false)) b=some o:=λb o e n=>by rw[zA9 n];exact e
 have nk:∀b o,H b=some o->(∀φ,o≠.ext φ)->b≠a:=λb o e n z=>by subst z;rw[ea]at e;cases e;exact n _ rfl
 refine I.step (g':=s.gens) (d':=s.drawn) (t':=s.toks) (ch:=old.toList) (λb hb=>?_) (λb o h1 h2 h3 e n=>?_) (λb o h1 h2 h3 e n=>?_) (λb o h3 e n=>?_) (λb o h3 e=>?_) (λb xs e=>?_) (λb o u e=>?_) (λb ps e=>?_) (λm hn=>?_) (λb o e=>?_) I.bare
 ·obtain⟨_,f1,_,f3,f4,f5⟩:=ho b (by simpa using hb);exact⟨f3,f1,f4,f5⟩
 ·exact N.keep b o (by rw[ow.frs];simp only[xr,not_or];exact⟨h1,h2⟩) (na b n) (by simpa using h3) e
 ·exact N.slot b o (by rw[ow.frs];exact .tail _ h2) e
 ·rw[zA9 (na b n)];exact n
 ·by_cases z:b=a
  ·subst z;obtain⟨⟨vs,sl,hx,_⟩,_⟩:=I.hok b _ ea;exact⟨_,N.exc _ vs hx rfl⟩
  ·by_cases q:b∈frs X.stack
   ·obtain⟨sl,e'⟩:=N.slot b o q e;exact⟨_,e'⟩
   ·exact⟨o,N.keep b o q z (by simpa using h3) e⟩
 ·exact up _ _ e (nk _ _ e (by intro φ z;cases z))
 ·exact up _ _ e (nk _ _ e (by intro φ z;cases z))
 ·exact⟨#[],by rw[up _ _ e (nk _ _ e (by intro φ z;cases z))];simp⟩
 ·obtain⟨o,es,ep,e1,e2,r⟩:=hn;obtain⟨sl,e'⟩:=N.slot X.env.locals o (by rw[ow.frs];exact .head _) e1;exact⟨_,es,ep,e',e2,r⟩
 ·by_cases z:b=a
  ·subst z;rw[zAb]at e;cases e;obtain⟨⟨vs,sl,hx,hz,_⟩,_⟩:=I.hok b _ ea;exact XO.ok ⟨_,sl,N.exc _ vs hx rfl,⟨by simpa using hz.1,by rw[Array.getElem?_setIfInBounds_ne (by decide)];exact hz.2⟩,λq=>by cases q⟩
  ·rw[zA9 z]at e;refine(I.hok b o e).stay (λc u hc q=>?_) (λc q=>?_) λc xs q=>up _ _ q (nk _ _ q (by intro φ z;cases z))
   ·rcases hc with rfl|hc
    ·exact keepT _ _ u e z q
    ·exact keepT _ _ u hc (nk _ _ hc (by intro φ z;cases z)) q
   ·exact up _ _ q (nk _ _ q (by intro φ z;cases z))
end
def FlyI(X:Cx)(pins:List (Addr × Obj))(σ:St)(H:Hp)(s:Shared)(a:Addr):Prop:=Inv X pins σ H s/\∃C dx fr vs sl old,H a=some (.ext (XO a C dx fr))/\s.heap.get? a=some ⟨.ref C,dx,.fields vs,sl⟩/\Tbk s.heap a vs old/\yB0 X pins H old
noncomputable def CXE (P:Program) (w:World):CXT:=λouter H s E e s'=>∃a H' C dx vs sl T,e=.ref a/\s'.os=s.os/\AllBare s'.gens/\Un (frs outer) [] H H' s.heap s'.heap/\HOk P w H' s'.heap /\
 H' a=some (.ext (XO a C dx false))/\s'.heap.get? a=some ⟨.ref C,dx,.fields vs,sl⟩/\Tbk s'.heap a vs (some T)/\H' T=none/\s.heap.objs.size<=T/\E e none H'
def Flown(H:Hp)(a:Addr):Prop:=∀C dx fr,H a=some (.ext (XO a C dx fr))->H a=some (.ext (XO a C dx false))
section
variable {P:Program}{w:World}{K:PySem.W.Frag}{mg:Str->Option Value}{base:Heap}{N:List Str}{qual:Str}{scope:Scope}{f a:Addr}{cd:Value}{A:Around}{outer:List Env}{s s1:Shared}{H H1:Hp}{E:XK}{pins:List (Addr × Obj)}{σ:St}
theorem zYs:Own (cxOf (CXE P w) P w K mg base N qual scope f cd A outer s H E):=⟨rfl,rfl⟩
theorem zW5(h:FlyI (cxOf (CXE P w) P w K mg base N qual scope f cd A outer s H E) pins σ H1 s1 a)(hE:∀C dx fr,H1 a=some (.ext (XO a C dx fr))->E (.ref a) none (upd H1 a (.ext (XO a C dx false)))):
  (cxOf (CXE P w) P w K mg base N qual scope f cd A outer s H E).xe (.ref a) s1:=by
 obtain⟨I,C,dx,fr,vs,sl,old,ea,he,tb,oo⟩:=h;have hne:s1.heap.objs.size≠a:=xX (xn he);refine zNk (base:=base) (old:=old) I.ok.frames I.stack rfl he rfl tb λh' Nn=>?_
 have J:=I.noted zYs ea Nn oo;have ex:=Nn.exc _ vs he rfl;obtain⟨oT,ts,hT,hdT,h3⟩:=Nn.tb;obtain⟨⟨_,_,_,hz,_⟩,_⟩:=I.hok a _ ea;have hz:1<vs.size:=by obtain⟨⟨vs2,sl2,he2,hz2,_⟩,_⟩:=I.hok a _ ea;rw[he]at he2;cases he2;exact hz2.1
 exact⟨a,_,C,dx,_,sl,s1.heap.objs.size,rfl,J.os,J.bare,J.base,J.hok,zAb,ex,⟨by simp[hz],hne,oT,ts,hT,hdT,h3⟩,by rw[zA9 hne];exact I.hok.fresh (xh _),I.sz,hE C dx fr ea⟩
end
section
variable {X:Cx}{pins:List (Addr × Obj)}{σ:St}{H:Hp}{s:Shared}{a C:Addr}{dx:Option Addr}
theorem FlyI.new(I:Inv X pins σ H s)(ea:H a=some (.ext (XO a C dx true))):FlyI X pins σ H s a:=by obtain⟨⟨vs,sl,he,hz,hf⟩,_⟩:=I.hok a _ ea;exact⟨I,C,dx,true,vs,sl,none,ea,he,hf rfl,λT e=>by cases e⟩
end
end L2
namespace DS
open PySem (Str)
inductive D where
 | non|bl (b:Bool)|int (i:Int)|str (x:Str)|ty (n:String)
 | tup (l:List D)|ktup (l:List D)|lst (l:List D)|klst (l:List D)|dct (t:Bool) (ks vs:List D)|st (l:List D)
 | ref (n:Nat)
noncomputable abbrev Store:=List D
noncomputable abbrev Env:=List (Option D)
structure Exn where
 cls:Str
 fs:List (Str × D)
inductive Rs (α:Type) where
 | ok (a:α) (S:Store)|ex (x:Exn) (S:Store)|bad
inductive SR where
 | nx (e:Env) (S:Store)|rt (d:D) (S:Store)|bk (e:Env) (S:Store)|ct (e:Env) (S:Store)|ex (x:Exn) (S:Store)|bad
noncomputable def Rs.bind {α β:Type}(r:Rs α) (k:α->Store->Rs β):Rs β:=match r with
 | .ok a S=>k a S
 | .ex x S=>.ex x S
 | .bad=>.bad
@[simp] theorem Rs.bind_ok {α β:Type}{a:α}{S:Store}{k:α->Store->Rs β}:(Rs.ok a S).bind k=k a S:=rfl
@[simp] theorem Rs.bind_ex {α β:Type}{x:Exn}{S:Store}{k:α->Store->Rs β}:(Rs.ex x S:Rs α).bind k=.ex x S:=rfl
@[simp] theorem Rs.bind_bad {α β:Type}{k:α->Store->Rs β}:(Rs.bad:Rs α).bind k=.bad:=rfl
noncomputable def Rs.then {α:Type}(r:Rs α) (k:α->Store->SR):SR:=match r with
 | .ok a S=>k a S
 | .ex x S=>.ex x S
 | .bad=>.bad
@[simp] theorem Rs.then_ok {α:Type}{a:α}{S:Store}{k:α->Store->SR}:(Rs.ok a S).then k=k a S:=rfl
@[simp] theorem Rs.then_ex {α:Type}{x:Exn}{S:Store}{k:α->Store->SR}:(Rs.ex x S:Rs α).then k=.ex x S:=rfl
@[simp] theorem Rs.then_bad {α:Type}{k:α->Store->SR}:(Rs.bad:Rs α).then k=.bad:=rfl
noncomputable def lift {α:Type}(o:Option α) (S:Store):Rs α:=match o with
 | some a=>.ok a S
 | none=>.bad
@[simp] theorem zDk {α:Type}{a:α}{S:Store}:lift (some a) S=.ok a S:=rfl
@[simp] theorem zZ7 {α:Type}{S:Store}:lift (none:Option α) S=.bad:=rfl
noncomputable def zVn {α:Type}(o:Option (α × Store)):Rs α:=match o with
 | some a=>.ok a.1 a.2
 | none=>.bad
@[simp] theorem zLa {α:Type}{a:α × Store}:zVn (some a)=.ok a.1 a.2:=rfl
@[simp] theorem zX4 {α:Type}:zVn (none:Option (α × Store))=.bad:=rfl
mutual
/-- all refs are below n -/
def D.low(n:Nat):D->Bool
 | .ref m=>decide (m<n)
 | .tup l=>lowL n l
 | .lst l=>lowL n l
 | .ktup l=>lowL n l
 | .klst l=>lowL n l
 | .dct _ ks vs=>lowL n ks && lowL n vs
 | .st l=>lowL n l
 | .non=>true
 | .bl _=>true
 | .int _=>true
 | .str _=>true
 | .ty _=>true
def lowL(n:Nat):List D->Bool
 | []=>true
 | d::r=>d.low n && lowL n r
end
mutual
/-- numbers,texts,truths,None,tuples and lists of them -/
def D.flat:D->Bool
 | .ref _=>false
 | .tup l=>zCm l
 | .lst l=>zCm l
 | .dct _ _ _=>false
 | .ktup _=>false
 | .klst _=>false
 | .st _=>false
 | .ty _=>false
 | .non=>true
 | .bl _=>true
 | .int _=>true
 | .str _=>true
def zCm:List D->Bool
 | []=>true
 | d::r=>d.flat && zCm r
end
mutual
/-- they may be compared: of one kind wherever == looks;no refs -/
def D.cmp:D->D->Bool
 | .non,.non=>true
 | .bl _,.bl _=>true
 | .int _,.int _=>true
 | .str _,.str _=>true
 | .tup a,.tup b=>cmpL a b
 | .lst a,.lst b=>cmpL a b
 | _,_=>false
def cmpL:List D->List D->Bool
 | a::r,b::t=>a.cmp b && cmpL r t
 | _,_=>true
end
mutual
def D.dep:D->Nat
 | .tup l=>depL l+1
 | .lst l=>depL l+1
 | .dct _ _ _=>0
 | .ktup _=>0
 | .klst _=>0
 | .st _=>0
 | .non=>0
 | .bl _=>0
 | .int _=>0
 | .str _=>0
 | .ty _=>0
 | .ref _=>0
def depL:List D->Nat
 | []=>0
 | d::r=>max d.dep (depL r)
end
section
open Classical
noncomputable def look (S:Store):D->Option D
 | .ref n=>S[n]?
 | .ktup l=>some (.tup l)
 | .klst l=>some (.lst l)
 | d=>some d
noncomputable def items (S:Store) (d:D):Option (List D):=match look S d with
 | some (.tup l)=>some l
 | some (.lst l)=>some l
 | _=>none
noncomputable def litems (S:Store) (d:D):Option (List D):=match d with
 | .klst _=>none
 | d=>match look S d with
  | some (.lst l)=>some l
  | _=>none
noncomputable abbrev EM:=Env->Store->Rs D
noncomputable abbrev TM:=Env->Store->Rs Bool
noncomputable abbrev AM:=Env->Store->Rs (List D)
noncomputable abbrev SM:=Env->Store->SR
noncomputable abbrev GM:=Store->D->Env->Option Env
noncomputable abbrev Fn:=List D->Store->Rs D
noncomputable def eVar (i:Nat):EM:=λenv S=>match env[i]? with
 | some (some d)=>.ok d S
 | _=>.bad
noncomputable def eC (d:D):EM:=λ_ S=>.ok d S
noncomputable def eOp (g:Store->D->D->Option D) (a b:EM):EM:=λenv S=>(a env S).bind λx S1=>(b env S1).bind λy S2=>lift (g S2 x y) S2
noncomputable def eUn (g:Store->D->Option D) (a:EM):EM:=λenv S=>(a env S).bind λx S1=>lift (g S1 x) S1
noncomputable def aNil:AM:=λ_ S=>.ok [] S
noncomputable def zA0 (a:EM) (r:AM):AM:=λenv S=>(a env S).bind λx S1=>(r env S1).bind λxs S2=>.ok (x::xs) S2
noncomputable def eTup (a:AM):EM:=λenv S=>(a env S).bind λxs S1=>.ok (.tup xs) S1
noncomputable def eLst (a:AM):EM:=λenv S=>(a env S).bind λxs S1=>.ok (.lst xs) S1
noncomputable def eNew (a:EM):EM:=λenv S=>(a env S).bind λx S1=>.ok (.ref S1.length) (S1++[x])
noncomputable def eCB (g:Store->List D->Option D) (a:AM):EM:=λenv S=>(a env S).bind λxs S1=>lift (g S1 xs) S1
noncomputable def zA3 (F:Fn) (a:AM):EM:=λenv S=>(a env S).bind λxs S1=>F xs S1
noncomputable def tyD (S:Store) (d:D):Option String:=match look S d with
 | some (.str _)=>some "str"
 | some (.lst _)=>some "list"
 | some (.dct _ _ _)=>some "dict"
 | some (.tup _)=>some "tuple"
 | some (.int _)=>some "int"
 | some (.bl _)=>some "bool"
 | some .non=>some "NoneType"
 | some (.st _)=>some "set"
 | _=>none
noncomputable def eMt (T:String) (g:Store->D->List D->Option (D × Store)) (o:EM) (a:AM):EM:=λenv S=>(o env S).bind λx S1=>if tyD S1 x=some T then(a env S1).bind λxs S2=>zVn (g S2 x xs)else .bad
noncomputable def asI:D->Option Int
 | .int i=>some i
 | _=>none
noncomputable def pNo:Env->Store->Rs (Option Int):=λ_ S=>.ok none S
noncomputable def pYes (a:EM):Env->Store->Rs (Option Int):=λenv S=>(a env S).bind λx S1=>lift ((asI x).map some) S1
noncomputable def eSl (g:Store->D->Option Int->Option Int->Option D) (a:EM) (lo hi:Env->Store->Rs (Option Int)):EM:=λenv S=>
 (a env S).bind λx S1=>(lo env S1).bind λl S2=>(hi env S2).bind λh S3=>lift (g S3 x l h) S3
noncomputable def asB:D->Option Bool
 | .bl b=>some b
 | _=>none
noncomputable def tB (a:EM):TM:=λenv S=>(a env S).bind λx S1=>lift (asB x) S1
noncomputable def most:Nat:=2 ^ 24
noncomputable def truth (S:Store) (d:D):Option Bool:=match look S d with
 | some (.bl b)=>some b
 | some (.int i)=>some (decide (i≠0))
 | some (.str x)=>if x.length<=most then some (decide (x.length≠0))else none
 | some (.tup l)=>some (decide (l≠[]))
 | some (.lst l)=>some (decide (l≠[]))
 | some .non=>some false
 | _=>none
noncomputable def tTru (a:EM):TM:=λenv S=>(a env S).bind λx S1=>lift (truth S1 x) S1
noncomputable def tAnd (a b:TM):TM:=λenv S=>(a env S).bind λc S1=>if c=true then b env S1 else .ok false S1
noncomputable def tOr (a b:TM):TM:=λenv S=>(a env S).bind λc S1=>if c=true then .ok true S1 else b env S1
noncomputable def tNot (a:TM):TM:=λenv S=>(a env S).bind λc S1=>.ok (!c) S1
noncomputable def tYes:TM:=λ_ S=>.ok true S
noncomputable def eAnd (a b:EM):EM:=λenv S=>(a env S).bind λx S1=>(lift (asB x) S1).bind λc S1=>if c=true then b env S1 else .ok (.bl false) S1
noncomputable def eOr (a b:EM):EM:=λenv S=>(a env S).bind λx S1=>(lift (asB x) S1).bind λc S1=>if c=true then .ok (.bl true) S1 else b env S1
noncomputable def eNot (a:EM):EM:=λenv S=>(a env S).bind λx S1=>(lift (asB x) S1).bind λc S1=>.ok (.bl (!c)) S1
noncomputable def eIf (c:TM) (a b:EM):EM:=λenv S=>(c env S).bind λk S1=>if k=true then a env S1 else b env S1
noncomputable def zBg (g g':Store->D->D->Option D) (a b c:EM):EM:=λenv S=>(a env S).bind λx S1=>(b env S1).bind λy S2=>(lift (g S2 x y) S2).bind λz S3=>(lift (asB z) S3).bind λk S3=>
 if k=true then(c env S3).bind λw S4=>lift (g' S4 y w) S4 else .ok (.bl false) S3
structure Walk where
 its:List D
 gd:List (Nat × D)
def gOk(S:Store)(gd:List (Nat × D)):Prop:=∀p∈gd,S[p.1]?=some p.2
noncomputable abbrev IM:=Env->Store->Rs Walk
noncomputable def gdOf (S:Store):D->List (Nat × D)
 | .ref n=>match S[n]? with
  | some d=>[(n,d)]
  | none=>[]
 | _=>[]
noncomputable def chars (x:Str):List D:=x.cps.toList.map λc=>.str ⟨#[c]⟩
noncomputable def zDw (S:Store) (d:D):Option Walk:=match look S d with
 | some (.tup l)=>some ⟨l,gdOf S d⟩
 | some (.lst l)=>some ⟨l,gdOf S d⟩
 | some (.str x)=>if x.cps.all (·<128)then some ⟨chars x,[]⟩else none
 | _=>none
noncomputable def iVal (a:EM):IM:=λenv S=>(a env S).bind λx S1=>lift (zDw S1 x) S1
noncomputable def fits62 (i:Int):Bool:=decide (-(2 ^ 62)<=i/\i<2 ^ 62)
noncomputable def zFf (i j:Int):List D:=(List.range (j-i).toNat).map fun(k:Nat)=>.int (i+k)
noncomputable def zG5:List D->Option Walk
 | [.int j]=>if fits62 j then some ⟨zFf 0 j,[]⟩else none
 | [.int i,.int j]=>if fits62 i && fits62 j then some ⟨zFf i j,[]⟩else none
 | _=>none
noncomputable def zBx (a:AM):IM:=λenv S=>(a env S).bind λxs S1=>lift (zG5 xs) S1
noncomputable def gName (i:Nat):GM:=λ_ d env=>some (env.set i (some d))
noncomputable def gAll:List GM->Store->List D->Env->Option Env
 | [],_,[],env=>some env
 | g::gs,S,d::ds,env=>match g S d env with
  | some env'=>gAll gs S ds env'
  | none=>none
 | _,_,_,_=>none
noncomputable def gTup (gs:List GM):GM:=λS d env=>match items S d with
 | some l=>gAll gs S l env
 | none=>none
noncomputable def zD9 (gd:List (Nat × D)) (g:GM) (c:TM) (e:EM):Nat->List D->Env->Store->Rs (List D)
 | _,[],_,S=>if gOk S gd then .ok [] S else .bad
 | k,d::r,env,S=>if gOk S gd/\k<most then(match g S d env with
  | some env'=>(c env' S).bind λb S1=>if b=true then(e env' S1).bind λv S2=>(zD9 gd g c e (k+1) r env' S2).bind λvs S3=>.ok (v::vs) S3 else zD9 gd g c e k r env' S1
  | none=>.bad)else .bad
noncomputable def compEnv (own:Nat) (ix:List Nat) (env:Env):Env:=List.replicate own none++ix.map λi=>(env[i]?).join
noncomputable def zAv (own:Nat) (ix:List Nat) (i:IM) (g:GM) (c:TM) (e:EM):EM:=λenv S=>
 (i env S).bind λw S1=>(zD9 w.gd g c e 0 w.its (compEnv own ix env) S1).bind λvs S2=>.ok (.lst vs) S2
noncomputable def zAd:SM:=λenv S=>.nx env S
noncomputable def zJv:SM:=λ_ _=>.bad
noncomputable def sSeq (a b:SM):SM:=λenv S=>match a env S with
 | .nx e S1=>b e S1
 | r=>r
noncomputable def sSet (i:Nat) (e:EM):SM:=λenv S=>(e env S).then λd S1=>.nx (env.set i (some d)) S1
noncomputable def sUnp (g:GM) (e:EM):SM:=λenv S=>(e env S).then λd S1=>match g S1 d env with
 | some env'=>.nx env' S1
 | none=>.bad
noncomputable def zAp (e:EM):SM:=λenv S=>(e env S).then λ_ S1=>.nx env S1
noncomputable def sRet (e:EM):SM:=λenv S=>(e env S).then λd S1=>.rt d S1
noncomputable def yB5:SM:=λ_ S=>.rt .non S
noncomputable def sIf (c:TM) (a b:SM):SM:=λenv S=>(c env S).then λk S1=>if k=true then a env S1 else b env S1
noncomputable def zMi:List Nat->List D->Env->Option Env
 | [],[],env=>some env
 | i::is,d::ds,env=>zMi is ds (env.set i (some d))
 | _,_,_=>none
noncomputable def sPar (is:List Nat) (a:AM):SM:=λenv S=>(a env S).then λds S1=>match zMi is ds env with
 | some env'=>.nx env' S1
 | none=>.bad
noncomputable def sPut (g:Store->D->D->D->Option Store) (o i v:EM):SM:=λenv S=>(v env S).then λy S1=>(o env S1).then λx S2=>(i env S2).then λk S3=>match g S3 x k y with
 | some S4=>.nx env S4
 | none=>.bad
noncomputable def forL (gd:List (Nat × D)) (g:GM) (b:SM):List D->Env->Store->SR
 | [],env,S=>if gOk S gd then .nx env S else .bad
 | d::r,env,S=>if gOk S gd then(match g S d env with
  | some env'=>(match b env' S with
   | .nx e S1=>forL gd g b r e S1
   | .ct e S1=>forL gd g b r e S1
   | .bk e S1=>.nx e S1
   | q=>q)
  | none=>.bad)else .bad
noncomputable def sFor (i:IM) (g:GM) (b:SM):SM:=λenv S=>(i env S).then λw S1=>forL w.gd g b w.its env S1
noncomputable def zAr (c:TM) (b:SM):Nat->Env->Store->SR
 | 0,_,_=>.bad
 | n+1,env,S=>(c env S).then λk S1=>if k=true then(match b env S1 with
   | .nx e S2=>zAr c b n e S2
   | .ct e S2=>zAr c b n e S2
   | .bk e S2=>.nx e S2
   | q=>q)else .nx env S1
noncomputable def zC2 (c:TM) (b:SM):SM:=λenv S=>if h:∃n,zAr c b n env S≠.bad then zAr c b (choose h) env S else .bad
theorem zCf :∀{n:Nat}{env:Env}{S:Store},zAr c b n env S≠.bad->∀m,n<=m->zAr c b m env S=zAr c b n env S
 | 0,_,_,h,_,_=>absurd rfl h
 | n+1,env,S,h,m,hm=>by
  obtain⟨m,rfl⟩:∃k,m=k+1:=⟨m-1,by nofun⟩
  unfold zAr at h ⊢;cases hc:c env S with
  | ok k S1=>
   rw[hc]at h;simp only[Rs.then_ok]at h ⊢;by_cases hk:k=true
   ·rw[xc hk]at h ⊢;rw[xc hk];cases hb:b env S1 with
    | nx e S2=>rw[hb]at h;exact zCf h m (by nofun)
    | ct e S2=>rw[hb]at h;exact zCf h m (by nofun)
    | _=>rfl
   ·rw[xf hk,xf hk]
  | ex x S1=>rfl
  | bad=>rfl
theorem zDg(h:zAr c b n env S≠.bad):zC2 c b env S=zAr c b n env S:=by
 unfold zC2;have hx:∃n,zAr c b n env S≠.bad:=⟨n,h⟩
 rw[dif_pos hx];have h1:=choose_spec hx;rw[<- zCf h1 (max (choose hx) n) (Nat.le_max_left _ _),<- zCf h (max (choose hx) n) (Nat.le_max_right _ _)]
def keeps(n:Nat):Store->Store->Prop
 | [],_=>True
 | a::r,b::t=>(a=b\/b.low n=true)/\keeps n r t
 | _::_,[]=>False
noncomputable def fin (S:Store) (d:D) (S':Store):Rs D:=
 if keeps S.length S S' then
  if d.low S.length=true then .ok d (S'.take S.length)
  else match d with
   | .ref n=>match S'[n]? with
    | some c=>if c.low S.length=true then .ok c (S'.take S.length)else .ok d S'
    | none=>.bad
   | _=>.ok d S'
 else .ok d S'
noncomputable def zAg (np nl:Nat) (b:SM):Fn:=λds S=>if ds.length=np then
  (match b (ds.map some++List.replicate (nl-np) none) S with
  | .nx _ S'=>fin S .non S'
  | .rt d S'=>fin S d S'
  | .ex x S'=>.ex x S'
  | _=>.bad)
 else .bad
noncomputable def zGo (np nl:Nat) (b:SM):Fn:=λds S=>if ds.length=np then
  (match b (ds.map some++List.replicate (nl-np) none) S with
  | .nx _ S'=>.ok .non S'
  | .rt d S'=>.ok d S'
  | .ex x S'=>.ex x S'
  | _=>.bad)
 else .bad
end
end DS
namespace L2
open PySem PySem.Spec PyProof.Rows
open DS (D Store Exn Rs SR)
noncomputable abbrev Js:=List Addr
def TAt(K:PySem.W.Frag)(J:Js)(H:Hp)(a:Addr)(xs:List V):Prop:=H a=some (.tup xs)/\a ∉ J
def KAt(K:PySem.W.Frag)(a:Addr)(xs:List V):Prop:=∃(o:Obj) (its:Array Value) (n:Nat),K.lookup a=some o/\o.cls=.type "tuple"/\o.data=.seq its n/\its.size<=sizeLine/\Vals xs its.toList
def LAt(K:PySem.W.Frag)(J:Js)(H:Hp)(a:Addr)(xs:List V):Prop:=H a=some (.lst xs)/\a ∉ J
def SAt(K:PySem.W.Frag)(J:Js)(H:Hp)(a:Addr)(xs:List V):Prop:=
 (Rd H a (.lst xs)/\a ∉ J)\/∃(o:Obj) (its:Array Value) (n:Nat),K.lookup a=some o/\o.cls=.type "list"/\o.dict=none/\o.data=.seq its n/\its.size<=sizeLine/\Vals xs its.toList
noncomputable def keyD:Key->D
 | .inl i=>.int i
 | .inr x=>.str x
noncomputable def zTo (k:List Key):D:=.tup (k.map keyD)
def DOb(o:HO)(t:Bool)(ks:List D)(xs:List V):Prop:=
 (t=false/\∃kvs:List (Key × V),o=.dK kvs/\ks=kvs.map (λp=>keyD p.1)/\xs=kvs.map (·.2)) \/
  (t=true/\∃kvs:List (List Key × V),o=.dT kvs/\ks=kvs.map (λp=>zTo p.1)/\xs=kvs.map (·.2))
def XFs(J:Js)(H:Hp)(dx:Option Addr)(xs:List (Str × V)):Prop:=(dx=none/\xs=[])\/∃d,dx=some d/\d ∉ J/\H d=some (.xd xs)
noncomputable def freeOf (scope:Scope):List Str:=(scope.names.filter λy=>y.2 == .free).map (·.1)
def zTa(a:Addr)(o:Obj):Heap->Prop:=λh=>h.get? a=some o
noncomputable def lamE:Expr->List (Arguments × Expr × Scope)
 | .Call _ [_,.Lambda a b s _] _ _=>[(a,b,s)]
 | .Call _ [_] [⟨_,.Lambda a b s _,_⟩] _=>[(a,b,s)]
 | _=>[]
noncomputable def zK1:List Stmt->List (Arguments × Expr × Scope)
 | []=>[]
 | .Return (some e) _::r=>lamE e++zK1 r
 | .Assign _ e _::r=>lamE e++zK1 r
 | _::r=>zK1 r
noncomputable def zZ8 (o:Obj):List (Arguments × Expr × Scope):=match o.data with
 | .func fd=>(match fd.body with
  | .stmts b=>zK1 b
  | _=>[])
 | _=>[]
noncomputable def yBv (K:PySem.W.Frag) (g:Nat):Option (Arguments × Expr × Scope):=(K.lookup (g / 8)).bind λo=>(zZ8 o)[g % 8]?
def zX3(J:Js)(H:Hp)(fre:List Str)(cl:List (Str × Addr))(gs:List V):Prop:=fre.length=gs.length/\(∀x c,cl.lookup x=some c->x∈fre)/\(∀x y c,cl.lookup x=some c->cl.lookup y=some c->x=y) /\
 ∀(i:Nat) (x:Str) (v:V),fre[i]?=some x->gs[i]?=some v->∃c o u,cl.lookup x=some c/\H c=some (.ext (zTa c o))/\c ∉ J/\o.data=.cell (some u)/\RelV v u
def FnV(K:PySem.W.Frag)(J:Js)(H:Hp)(v:V)(xs:List V):Prop:=∃(f:Addr) (g:Nat) (q:Str) (params:Arguments) (body:Expr) (scope:Scope) (cl:List (Str × Addr)) (pm:Value) (c:Addr) (ctv:Value) (gs:List V),
 xs=.int g::gs/\v=.ref f/\yBv K g=some (params,body,scope)/\(H f=some (.ext (zTa f (PySem.W.kla_obj "<lambda>" q params body scope cl pm c ctv)))/\f ∉ J)/\(H c=some (.ext (zGr c q))/\c ∉ J)/\zX3 J H (freeOf scope) cl gs
mutual
def Rep(K:PySem.W.Frag)(J:Js)(H:Hp):D->V->Prop
 | .non,v=>v=.non
 | .bl b,v=>v=.bl b
 | .int i,v=>v=.int i
 | .str x,v=>v=.str x
 | .ty n,v=>v=.ty n
 | .tup ds,v=>∃a xs,v=.ref a/\TAt K J H a xs/\RepL K J H ds xs
 | .lst ds,v=>∃a xs,v=.ref a/\LAt K J H a xs/\RepL K J H ds xs
 | .ktup ds,v=>∃a xs,v=.ref a/\KAt K a xs/\RepL K J H ds xs
 | .klst ds,v=>∃a xs,v=.ref a/\SAt K J H a xs/\RepL K J H ds xs
 | .dct t ks vs,v=>∃a o xs,v=.ref a/\a ∉ J/\Rd H a o/\DOb o t ks xs/\RepL K J H vs xs
 | .st ds,v=>(∃xs,FnV K J H v xs/\RepL K J H ds xs)\/∃a C dx fr xs,v=.ref a/\a ∉ J/\H a=some (.ext (XO a C dx fr))/\XFs J H dx xs/\RepX K J H C ds xs
 | .ref n,v=>∃a,J[n]?=some a/\v=.ref a
def RepL(K:PySem.W.Frag)(J:Js)(H:Hp):List D->List V->Prop
 | [],xs=>xs=[]
 | d::ds,xs=>∃x r,xs=x::r/\Rep K J H d x/\RepL K J H ds r
/-- an exception as a datum: its class's address,its fields -/
def RepX(K:PySem.W.Frag)(J:Js)(H:Hp)(C:Addr):List D->List (Str × V)->Prop
 | .non::.int c::l,xs=>c=(C:Int)/\RepF K J H l xs
 | _,_=>False
def RepF(K:PySem.W.Frag)(J:Js)(H:Hp):List D->List (Str × V)->Prop
 | [],xs=>xs=[]
 | .str f::d::l,xs=>∃x r,xs=(f,x)::r/\Rep K J H d x/\RepF K J H l r
 | _::_,_=>False
end
def ObD(K:PySem.W.Frag)(J:Js)(H:Hp):D->HO->Prop
 | .lst ds,o=>∃xs,o=.lst xs/\RepL K J H ds xs
 | .dct t ks vs,o=>∃xs,DOb o t ks xs/\RepL K J H vs xs
 | _,_=>False
def RepO(K:PySem.W.Frag)(J:Js)(H:Hp)(d:D)(a:Addr):Prop:=∃o,H a=some o/\ObD K J H d o
noncomputable def tqAt (P:Addr) (o:Obj):Option Str:=match o.data with
 | .fields vs=>(match vs.getD 11 .none with
  | .ref p=>(match vs.getD 1 .none with
   | .str q _=>if p=P then some (q++".<locals>."++"<lambda>")else none
   | _=>none)
  | _=>none)
 | _=>none
noncomputable def tqOf (K:PySem.W.Frag) (P:Addr):Str:=(K.findSome? λe=>tqAt P e.2).getD ""
noncomputable def tabOf (K:PySem.W.Frag) (o:Obj):Option Addr:=match o.data with
 | .func fd=>if(zZ8 o).isEmpty then none else(match fd.code with
  | .ref cd=>(K.lookup cd).bind λoc=>(match oc.data with
   | .fields vs=>(match vs.getD 11 .none with
    | .ref P=>some P
    | _=>none)
   | _=>none)
  | _=>none)
 | _=>none
noncomputable def zCd (K:PySem.W.Frag):List Addr:=K.filterMap λe=>tabOf K e.2
def TabsOk(K:PySem.W.Frag)(H:Hp):Prop:=(∀P ps,H P=some (.tbl ps)->TriplesOk ps.toList/\∀pos cv,codeAmong pos ps.toList=some cv->∃c,cv=.ref c/\H c=some (.ext (zGr c (tqOf K P))))/\∀P∈zCd K,∃ps,H P=some (.tbl ps)
def zX2:HO->Prop
 | .tbl _=>False
 | _=>True
def Pinned:HO->Prop
 | .tbl _=>True
 | .ext _=>True
 | _=>False
theorem TabsOk.imp{K:PySem.W.Frag}{H H':Hp}(h:TabsOk K H)(h1:∀P ps,H' P=some (.tbl ps)->H P=some (.tbl ps))(h2:∀c o,H c=some o->Pinned o->H' c=some o):TabsOk K H':=⟨λP ps e=>by
 obtain⟨t,k⟩:=h.1 P ps (h1 P ps e);exact⟨t,λpos cv e=>by obtain⟨c,e1,e2⟩:=k pos cv e;exact⟨c,e1,h2 _ _ e2 trivial⟩⟩,λP m=>by
 obtain⟨ps,e⟩:=h.2 P m;exact⟨ps,h2 _ _ e trivial⟩⟩
structure AbS (K:PySem.W.Frag) (J:Js) (S:Store) (H:Hp):Prop where
 len:J.length=S.length
 tab:TabsOk K H
 nd:J.Nodup
 ob:∀(i:Nat) (a:Addr) (d:D),J[i]?=some a->S[i]?=some d->RepO K J H d a
def Fz(o:HO)(x:Option HO):Prop:=x=some o\/((∃kvs,o=.dT kvs)/\∃ob,x=some (.frz ob o))\/((∃ps,o=.tbl ps)/\∃ps,x=some (.tbl ps))
theorem Fz.tup(h:Fz (.tup xs) x):x=some (.tup xs):=by
 rcases h with h|⟨⟨_,z⟩,_⟩|⟨⟨_,z⟩,_⟩
 ·exact h
 ·cases z
 ·cases z
theorem Fz.lst(h:Fz (.lst xs) x):x=some (.lst xs):=by
 rcases h with h|⟨⟨_,z⟩,_⟩|⟨⟨_,z⟩,_⟩
 ·exact h
 ·cases z
 ·cases z
theorem Fz.frz(h:Fz (.frz ob u) x):x=some (.frz ob u):=by
 rcases h with h|⟨⟨_,z⟩,_⟩|⟨⟨_,z⟩,_⟩
 ·exact h
 ·cases z
 ·cases z
theorem Fz.ext{φ:Heap->Prop}(h:Fz (.ext φ) x):x=some (.ext φ):=by
 rcases h with h|⟨⟨_,z⟩,_⟩|⟨⟨_,z⟩,_⟩
 ·exact h
 ·cases z
 ·cases z
theorem Fz.xd(h:Fz (.xd xs) x):x=some (.xd xs):=by
 rcases h with h|⟨⟨_,z⟩,_⟩|⟨⟨_,z⟩,_⟩
 ·exact h
 ·cases z
 ·cases z
theorem Fz.tbl(h:Fz (.tbl ps) x):∃qs,x=some (.tbl qs):=by
 rcases h with h|⟨⟨_,z⟩,_⟩|⟨_,z⟩
 ·exact⟨_,h⟩
 ·cases z
 ·exact z
structure Grow (J:Js) (H:Hp) (J':Js) (H':Hp):Prop where
 pre:∀(i:Nat) (a:Addr),J[i]?=some a->J'[i]?=some a
 new:∀a∈J',a ∉ J->H a=none
 keep:∀b o,b ∉ J->H b=some o->Fz o (H' b)
 dom:∀b,H' b=none->H b=none
structure RepE (K:PySem.W.Frag) (J:Js) (H:Hp) (env:DS.Env) (σ:St):Prop where
 len:env.length=σ.length
 get:∀(i:Nat) (d:D),env[i]?=some (some d)->∃v,σ[i]?=some (some v)/\Rep K J H d v
section
variable {K:PySem.W.Frag}{J J' J1 J2:Js}{H H' H1 H2:Hp}{a:Addr}{d:D}{v:V}{S S':Store}{env:DS.Env}{σ:St}
theorem Grow.refl:Grow J H J H:=⟨λ_ _ h=>h,λ_ h n=>absurd h n,λ_ _ _ h=>.inl h,λ_ h=>h⟩
theorem Grow.trans(g:Grow J H J1 H1)(k:Grow J1 H1 J2 H2):Grow J H J2 H2 where
 pre:=λi a h=>k.pre i a (g.pre i a h)
 new:=λa h n=>by
  by_cases z:a∈J1
  ·exact g.new a z n
  ·exact g.dom a (k.new a h z)
 keep:=λb o n h=>by
  have n1:b ∉ J1:=λz=>by rw[g.new b z n]at h;cases h
  rcases g.keep b o n h with e|⟨z,ob,e⟩|⟨z,ps,e⟩
  ·exact k.keep b o n1 e
  ·exact .inr (.inl ⟨z,ob,(k.keep b _ n1 e).frz⟩)
  ·exact .inr (.inr ⟨z,(k.keep b _ n1 e).tbl⟩)
 dom:=λb h=>g.dom b (k.dom b h)
theorem Grow.out(g:Grow J H J' H')(n:a ∉ J)(h:H a=some o):a ∉ J':=λz=>by rw[g.new a z n]at h;cases h
theorem Grow.rd(g:Grow J H J' H')(n:a ∉ J)(h:Rd H a u)(hu:∀ps,u≠.tbl ps:=by intro _ z;cases z):Rd H' a u/\a ∉ J':=by
 rcases h with h|⟨o,h⟩
 ·refine⟨?_,g.out n h⟩;rcases g.keep _ _ n h with e|⟨_,ob,e⟩|⟨⟨_,z⟩,ps,e⟩
  ·exact .inl e
  ·exact .inr ⟨ob,e⟩
  ·exact absurd z (hu _)
 ·exact⟨.inr ⟨o,(g.keep _ _ n h).frz⟩,g.out n h⟩
theorem TAt.sq(h:TAt K J H a xs):SqT K H a xs:=.inl (.inl h.1)
theorem KAt.sq(h:KAt K a xs):SqT K H a xs:=.inr h
theorem LAt.sq(h:LAt K J H a xs):SqL K H a xs:=.inl (.inl h.1)
theorem SAt.sq(h:SAt K J H a xs):SqL K H a xs:=by
 rcases h with h|h
 ·exact .inl h.1
 ·exact .inr h
theorem SAt.grow(g:Grow J H J' H')(h:SAt K J H a xs):SAt K J' H' a xs:=by
 rcases h with h|h
 ·exact .inl (g.rd h.2 h.1)
 ·exact .inr h
theorem FnV.grow(g:Grow J H J' H')(h:FnV K J H v xs):FnV K J' H' v xs:=by
 obtain⟨f,g',q,params,body,scope,cl,pm,c,ctv,gs,e1,e2,e3,⟨e4,n4⟩,⟨e5,n5⟩,l1,l2,l3,l4⟩:=h;exact⟨f,g',q,params,body,scope,cl,pm,c,ctv,gs,e1,e2,e3,⟨(g.keep _ _ n4 e4).ext,g.out n4 e4⟩,⟨(g.keep _ _ n5 e5).ext,g.out n5 e5⟩,l1,l2,l3,λi x v h1 h2=>by
  obtain⟨c,o,u,q1,q2,q3,q4⟩:=l4 i x v h1 h2;exact⟨c,o,u,q1,(g.keep _ _ q3 q2).ext,g.out q3 q2,q4⟩⟩
theorem DOb.nt(h:DOb o t ks xs):∀ps,o≠.tbl ps:=λps z=>by
 rcases h with⟨_,_,e,_⟩|⟨_,_,e,_⟩ <;> · rw[e]at z;cases z
theorem TAt.grow(g:Grow J H J' H')(h:TAt K J H a xs):TAt K J' H' a xs:=⟨(g.keep _ _ h.2 h.1).tup,g.out h.2 h.1⟩
theorem LAt.grow(g:Grow J H J' H')(h:LAt K J H a xs):LAt K J' H' a xs:=⟨(g.keep _ _ h.2 h.1).lst,g.out h.2 h.1⟩
theorem XFs.grow(g:Grow J H J' H')(h:XFs J H dx xs):XFs J' H' dx xs:=by
 rcases h with h|⟨d,e,n,h⟩
 ·exact .inl h
 ·exact .inr ⟨d,e,g.out n h,(g.keep _ _ n h).xd⟩
mutual
theorem Rep.grow(g:Grow J H J' H'):∀(d:D) (v:V),Rep K J H d v->Rep K J' H' d v
 | .non,_,h=>h
 | .bl _,_,h=>h
 | .int _,_,h=>h
 | .str _,_,h=>h
 | .ty _,_,h=>h
 | .tup ds,v,⟨a,xs,e,t,r⟩=>⟨a,xs,e,t.grow g,RepL.grow g ds xs r⟩
 | .lst ds,v,⟨a,xs,e,t,r⟩=>⟨a,xs,e,t.grow g,RepL.grow g ds xs r⟩
 | .ktup ds,v,⟨a,xs,e,t,r⟩=>⟨a,xs,e,t,RepL.grow g ds xs r⟩
 | .klst ds,v,⟨a,xs,e,t,r⟩=>⟨a,xs,e,t.grow g,RepL.grow g ds xs r⟩
 | .dct _ ks vs,v,⟨a,o,xs,e,n,h,t,r⟩=>⟨a,o,xs,e,(g.rd n h t.nt).2,(g.rd n h t.nt).1,t,RepL.grow g vs xs r⟩
 | .st ds,v,.inl ⟨xs,e,r⟩=>.inl ⟨xs,e.grow g,RepL.grow g ds xs r⟩
 | .st l,v,.inr ⟨a,C,dx,fr,xs,e,n,h,f,r⟩=>.inr ⟨a,C,dx,fr,xs,e,g.out n h,(g.keep _ _ n h).ext,f.grow g,RepX.grow g C l xs r⟩
 | .ref n,v,⟨a,e,h⟩=>⟨a,g.pre n a e,h⟩
theorem RepL.grow(g:Grow J H J' H'):∀(ds:List D) (xs:List V),RepL K J H ds xs->RepL K J' H' ds xs
 | [],_,h=>h
 | d::ds,xs,⟨x,r,e,h,t⟩=>⟨x,r,e,Rep.grow g d x h,RepL.grow g ds r t⟩
theorem RepX.grow(g:Grow J H J' H')(C:Addr):∀(l:List D) (xs:List (Str × V)),RepX K J H C l xs->RepX K J' H' C l xs
 | .non::.int _::l,xs,h=>⟨h.1,RepF.grow g l xs h.2⟩
theorem RepF.grow(g:Grow J H J' H'):∀(l:List D) (xs:List (Str × V)),RepF K J H l xs->RepF K J' H' l xs
 | [],_,h=>h
 | .str _::d::l,xs,⟨x,r,e,h,t⟩=>⟨x,r,e,Rep.grow g d x h,RepF.grow g l r t⟩
end
theorem RepE.grow(g:Grow J H J' H')(h:RepE K J H env σ):RepE K J' H' env σ:=⟨h.len,λi d e=>by
 obtain⟨v,q,r⟩:=h.get i d e;exact⟨v,q,Rep.grow g d v r⟩⟩
theorem RepL.length:∀{ds:List D}{xs:List V},RepL K J H ds xs->ds.length=xs.length
 | [],_,h=>by cases h;rfl
 | _::ds,_,⟨x,r,e,_,t⟩=>by subst e;simp[RepL.length t]
theorem RepL.get:∀{ds:List D}{xs:List V}{i:Nat}{d:D},RepL K J H ds xs->ds[i]?=some d->∃x,xs[i]?=some x/\Rep K J H d x
 | [],_,_,_,_,e=>by simp at e
 | d::ds,_,0,_,⟨x,r,e,h,t⟩,q=>by subst e;simp at q;subst q;exact⟨x,rfl,h⟩
 | _::ds,_,i+1,d,⟨x,r,e,_,t⟩,q=>by subst e;exact RepL.get (i:=i) t (by simpa using q)
theorem RepL.get'{i:Nat}(h:RepL K J H ds xs)(e:xs[i]?=some x):∃d,ds[i]?=some d/\Rep K J H d x:=by
 have hl:=h.length;have hi:i<ds.length:=by rw[hl];exact(xC.mp e).1
 obtain⟨y,ey,r⟩:=h.get (xo hi);rw[e]at ey;cases ey;exact⟨_,xo hi,r⟩
theorem RepL.append:∀{ds es:List D}{xs ys:List V},RepL K J H ds xs->RepL K J H es ys->RepL K J H (ds++es) (xs++ys)
 | [],_,_,_,h,k=>by cases h;exact k
 | d::ds,_,_,_,⟨x,r,e,h,t⟩,k=>by subst e;exact⟨x,_,rfl,h,t.append k⟩
theorem RepL.snoc(h:RepL K J H ds xs)(r:Rep K J H d x):RepL K J H (ds++[d]) (xs++[x]):=h.append ⟨x,[],rfl,r,rfl⟩
theorem RepL.take:∀{ds:List D}{xs:List V}(n:Nat),RepL K J H ds xs->RepL K J H (ds.take n) (xs.take n)
 | _,_,0,_=>rfl
 | [],_,_+1,h=>by cases h;rfl
 | d::ds,_,n+1,⟨x,r,e,h,t⟩=>by subst e;exact⟨x,_,rfl,h,t.take n⟩
theorem RepL.drop:∀{ds:List D}{xs:List V}(n:Nat),RepL K J H ds xs->RepL K J H (ds.drop n) (xs.drop n)
 | _,_,0,h=>h
 | [],_,_+1,h=>by cases h;rfl
 | d::ds,_,n+1,⟨x,r,e,h,t⟩=>by subst e;exact t.drop n
theorem RepL.reverse:∀{ds:List D}{xs:List V},RepL K J H ds xs->RepL K J H ds.reverse xs.reverse
 | [],_,h=>by cases h;rfl
 | d::ds,_,⟨x,r,e,h,t⟩=>by subst e;rw[List.reverse_cons,List.reverse_cons];exact t.reverse.snoc h
theorem RepL.set:∀{ds:List D}{xs:List V}{x:V}(n:Nat),RepL K J H ds xs->Rep K J H d x->RepL K J H (ds.set n d) (xs.set n x)
 | [],_,_,_,h,_=>by cases h;rfl
 | _::ds,_,_,0,⟨y,r,e,_,t⟩,k=>by subst e;exact⟨_,_,rfl,k,t⟩
 | _::ds,_,_,n+1,⟨y,r,e,h,t⟩,k=>by subst e;exact⟨_,_,rfl,h,RepL.set n t k⟩
theorem RepL.dropLast{ds:List D}{xs:List V}(h:RepL K J H ds xs):RepL K J H ds.dropLast xs.dropLast:=by rw[List.dropLast_eq_take,List.dropLast_eq_take,h.length];exact h.take _
theorem RepL.ints:∀{ns:List Int},RepL K J H (ns.map D.int) (ns.map V.int)
 | []=>rfl
 | n::ns=>⟨_,_,rfl,rfl,RepL.ints⟩
theorem AbS.lt(h:AbS K J S H){n:Nat}(e:J[n]?=some a):n<S.length:=by rw[<- h.len];exact(xC.mp e).1
theorem AbS.at(h:AbS K J S H){n:Nat}(e:J[n]?=some a):∃d,S[n]?=some d/\RepO K J H d a:=
 ⟨S[n]'(h.lt e),xo (h.lt e),h.ob n a _ e (xo (h.lt e))⟩
theorem AbS.mem(h:AbS K J S H)(m:a∈J):∃o,H a=some o:=by obtain⟨i,e⟩:=uu.mp m;obtain⟨d,_,o,r,_⟩:=h.at e;exact⟨o,r⟩
theorem AbS.out(h:AbS K J S H)(n:H a=none):a ∉ J:=λm=>by
 obtain⟨o,e⟩:=h.mem m;rw[n]at e;cases e
theorem ObD.imp(rl:∀ds xs,RepL K J H ds xs->RepL K J' H' ds xs):∀{d:D},ObD K J H d o->ObD K J' H' d o
 | .lst ds,⟨xs,e,r⟩=>⟨xs,e,rl _ _ r⟩
 | .dct _ ks vs,⟨xs,e,r⟩=>⟨xs,e,rl _ _ r⟩
 | .non,h=>False.elim h
 | .bl _,h=>False.elim h
 | .int _,h=>False.elim h
 | .str _,h=>False.elim h
 | .ty _,h=>False.elim h
 | .tup _,h=>False.elim h
 | .ktup _,h=>False.elim h
 | .klst _,h=>False.elim h
 | .st _,h=>False.elim h
 | .ref _,h=>False.elim h
theorem ObD.grow(g:Grow J H J' H')(h:ObD K J H d o):ObD K J' H' d o:=h.imp (RepL.grow g)
theorem Grow.of(k:∀b o,H b=some o->H' b=some o):Grow J H J H':=⟨λ_ _ h=>h,λ_ h n=>absurd h n,λb o _ h=>.inl (k b o h),λb h=>by
 cases e:H b with
 | none=>rfl
 | some o=>rw[k b o e]at h;cases h⟩
theorem AbS.more(h:AbS K J S H)(k:∀b o,H b=some o->H' b=some o)(nt:∀P ps,H' P=some (.tbl ps)->H P=some (.tbl ps)):AbS K J S H':=
 ⟨h.len,h.tab.imp nt λc o e _=>k _ _ e,h.nd,λi a d e q=>by
  obtain⟨o,eo,r⟩:=h.ob i a d e q;exact⟨o,k _ _ eo,r.grow (.of k)⟩⟩
theorem zDm(n:H p=none):∀b u,H b=some u->upd H p o b=some u:=λb u e=>by rw[zA9 (zAe e n)];exact e
theorem zNa(no:zX2 o):∀P ps,upd H p o P=some (.tbl ps)->H P=some (.tbl ps):=λP ps e=>by
 by_cases z:P=p
 ·subst z;rw[zAb]at e;cases e;exact no.elim
 ·rwa[zA9 z]at e
theorem AbS.push(h:AbS K J S H)(n:H p=none)(no:zX2 o:=by trivial):AbS K J S (upd H p o):=h.more (zDm n) (zNa no)
theorem ObD.nt :∀{d:D},ObD K J H d o->zX2 o
 | .lst ds,⟨xs,e,r⟩=>by rw[e];trivial
 | .dct _ ks vs,⟨xs,e,r⟩=>by
  cases o with
  | tbl ps=>exact absurd rfl (e.nt ps)
  | _=>trivial
 | .non,h=>False.elim h
 | .bl _,h=>False.elim h
 | .int _,h=>False.elim h
 | .str _,h=>False.elim h
 | .ty _,h=>False.elim h
 | .tup _,h=>False.elim h
 | .ktup _,h=>False.elim h
 | .klst _,h=>False.elim h
 | .st _,h=>False.elim h
 | .ref _,h=>False.elim h
theorem Grow.push(n:H p=none):Grow J H J (upd H p o):=.of (zDm n)
theorem Grow.name(n:H p=none):Grow J H (J++[p]) (upd H p o) where
 pre:=λi a h=>by rw[xN (xC.mp h).1];exact h
 new:=λa h z=>by
  rcases xH.mp h with h|h
  ·exact absurd h z
  ·rw[xx.mp h];exact n
 keep:=λb u _ e=>.inl (zDm n b u e)
 dom:=(Grow.push (J:=J) n).dom
theorem AbS.name(h:AbS K J S H)(n:H p=none)(r:ObD K J H d o):AbS K (J++[p]) (S++[d]) (upd H p o):=by
 have hp:=h.out n;have g:Grow J H (J++[p]) (upd H p o):=.name n;refine⟨by simp[h.len],h.tab.imp (zNa r.nt) λc o e _=>zDm n _ _ e,?_,λi a d' e q=>?_⟩
 ·refine List.nodup_append.mpr ⟨h.nd,(vR.mpr ⟨by simp,List.nodup_nil⟩),λx hx y hy=>?_⟩;rintro rfl;exact hp (by rw[<- xx.mp hy];exact hx)
 ·by_cases hi:i<J.length
  ·rw[xN hi]at e;rw[xN (by rw[<- h.len];exact hi)]at q;obtain⟨o',eo,r'⟩:=h.ob i a d' e q;exact⟨o',zDm n _ _ eo,r'.grow g⟩
  ·have hl:i=J.length:=by
    have:=(xC.mp e).1;simp at this;lia
   subst hl;rw[xM (xh _)]at e;rw[xM (by rw[h.len];exact xh _),h.len]at q;simp at e q;subst e q;exact⟨o,zAb,r.grow g⟩
theorem Grow.write{n:Nat}(e:J[n]?=some a):Grow J H J (upd H a o) where
 pre:=λ_ _ h=>h
 new:=λb h z=>absurd h z
 keep:=λb u z h=>.inl (by rw[zA9 (λq=>z (by rw[q];exact vz e))];exact h)
 dom:=λb h=>by
  by_cases q:b=a
  ·subst q;rw[zAb]at h;cases h
  ·rw[zA9 q]at h;exact h
theorem AbS.write{n:Nat}(h:AbS K J S H)(e:J[n]?=some a)(r:ObD K J H d o):AbS K J (S.set n d) (upd H a o):=by
 have g:Grow J H J (upd H a o):=.write e;have ne:∀c o,H c=some o->Pinned o->c≠a:=λc o ec hp z=>by
  subst z;obtain⟨d0,_,o0,e0,r0⟩:=h.at e;rw[ec]at e0;cases e0;cases d0 with
  | lst ds=>obtain⟨_,z,_⟩:=r0;rw[z]at hp;exact hp
  | dct t ks vs=>
   obtain⟨_,z,_⟩:=r0;rcases z with⟨_,_,z,_⟩|⟨_,_,z,_⟩ <;> · rw[z]at hp;exact hp
  | _=>exact r0
 refine⟨by simp[h.len],h.tab.imp (zNa r.nt) λc o ec hp=>by rw[zA9 (ne c o ec hp)];exact ec,h.nd,λi b d' ei q=>?_⟩;by_cases hi:i=n
 ·subst hi;rw[e]at ei;cases ei;rw[vI (h.lt e)]at q;cases q;exact⟨o,zAb,r.grow g⟩
 ·rw[vJ (xA hi)]at q;obtain⟨o',eo,r'⟩:=h.ob i b d' ei q;have hb:b≠a:=λz=>by
   subst z;exact hi ((List.getElem?_inj (xC.mp ei).1 h.nd).mp (ei.trans e.symm))
  exact⟨o',by rw[zA9 hb];exact eo,r'.grow g⟩
theorem lowL_iff{n:Nat}:∀{l:List D},DS.lowL n l=true <-> ∀d∈l,d.low n=true
 | []=>⟨(λ_ _ h=>nomatch h),λ_=>rfl⟩
 | d::r=>by
  show(d.low n && DS.lowL n r)=true <-> _;rw[xl,lowL_iff (l:=r)];simp
theorem zK2(n:Nat)(k:Key):(keyD k).low n=true:=by cases k <;> rfl
theorem DOb.low(h:DOb o t ks xs):DS.lowL n ks=true:=by
 rcases h with⟨_,kvs,_,rfl,_⟩|⟨_,kvs,_,rfl,_⟩
 ·exact lowL_iff.mpr λd hd=>by obtain⟨p,_,rfl⟩:=xE.mp hd;exact zK2 n p.1
 ·exact lowL_iff.mpr λd hd=>by
   obtain⟨p,_,rfl⟩:=xE.mp hd;show DS.lowL n (p.1.map keyD)=true;exact lowL_iff.mpr λd hd=>by obtain⟨q,_,rfl⟩:=xE.mp hd;exact zK2 n q
mutual
theorem Rep.low:∀(d:D) (v:V),Rep K J H d v->d.low J.length=true
 | .non,_,_=>rfl
 | .bl _,_,_=>rfl
 | .int _,_,_=>rfl
 | .str _,_,_=>rfl
 | .ty _,_,_=>rfl
 | .tup ds,v,⟨a,xs,e,t,r⟩=>RepL.low ds xs r
 | .lst ds,v,⟨a,xs,e,t,r⟩=>RepL.low ds xs r
 | .ktup ds,v,⟨a,xs,e,t,r⟩=>RepL.low ds xs r
 | .klst ds,v,⟨a,xs,e,t,r⟩=>RepL.low ds xs r
 | .dct _ ks vs,v,⟨a,o,xs,e,n,h,t,r⟩=>by
  show(DS.lowL J.length ks && DS.lowL J.length vs)=true;rw[RepL.low vs xs r,ux];exact DOb.low t
 | .st ds,v,.inl ⟨xs,e,r⟩=>RepL.low ds xs r
 | .st l,v,.inr ⟨a,C,dx,fr,xs,e,n,h,f,r⟩=>RepX.low C l xs r
 | .ref n,v,⟨a,e,h⟩=>xj (xC.mp e).1
theorem RepL.low:∀(ds:List D) (xs:List V),RepL K J H ds xs->DS.lowL J.length ds=true
 | [],_,_=>rfl
 | d::ds,xs,⟨x,r,e,h,t⟩=>by
  show(d.low J.length && DS.lowL J.length ds)=true;rw[Rep.low d x h,RepL.low ds r t];rfl
theorem RepX.low(C:Addr):∀(l:List D) (xs:List (Str × V)),RepX K J H C l xs->DS.lowL J.length l=true
 | .non::.int _::l,xs,h=>by
  show(true && (true && DS.lowL J.length l))=true;rw[RepF.low l xs h.2];rfl
theorem RepF.low:∀(l:List D) (xs:List (Str × V)),RepF K J H l xs->DS.lowL J.length l=true
 | [],_,h=>rfl
 | .str _::d::l,xs,⟨x,r,e,h,t⟩=>by
  show(true && (d.low J.length && DS.lowL J.length l))=true;rw[Rep.low d x h,RepF.low l r t];rfl
end
theorem ObD.low :∀{d:D},ObD K J H d o->d.low J.length=true
 | .lst ds,⟨xs,_,r⟩=>RepL.low ds xs r
 | .dct _ ks vs,⟨xs,t,r⟩=>by
  show(DS.lowL J.length ks && DS.lowL J.length vs)=true;rw[RepL.low vs xs r,ux];exact DOb.low t
 | .non,h=>False.elim h
 | .bl _,h=>False.elim h
 | .int _,h=>False.elim h
 | .str _,h=>False.elim h
 | .ty _,h=>False.elim h
 | .tup _,h=>False.elim h
 | .ktup _,h=>False.elim h
 | .klst _,h=>False.elim h
 | .st _,h=>False.elim h
 | .ref _,h=>False.elim h
theorem zB0{n:Nat}(h:a ∉ J):a ∉ J.take n:=λz=>h (List.mem_of_mem_take z)
theorem FnV.cut{n:Nat}(h:FnV K J H v xs):FnV K (J.take n) H v xs:=by
 obtain⟨f,g',q,params,body,scope,cl,pm,c,ctv,gs,e1,e2,e3,⟨e4,n4⟩,⟨e5,n5⟩,l1,l2,l3,l4⟩:=h;exact⟨f,g',q,params,body,scope,cl,pm,c,ctv,gs,e1,e2,e3,⟨e4,zB0 n4⟩,⟨e5,zB0 n5⟩,l1,l2,l3,λi x v h1 h2=>by
  obtain⟨c,o,u,q1,q2,q3,q4⟩:=l4 i x v h1 h2;exact⟨c,o,u,q1,q2,zB0 q3,q4⟩⟩
mutual
theorem Rep.cut(n:Nat):∀(d:D) (v:V),d.low n=true->Rep K J H d v->Rep K (J.take n) H d v
 | .non,_,_,h=>h
 | .bl _,_,_,h=>h
 | .int _,_,_,h=>h
 | .str _,_,_,h=>h
 | .ty _,_,_,h=>h
 | .tup ds,v,l,⟨a,xs,e,t,r⟩=>⟨a,xs,e,⟨t.1,zB0 t.2⟩,RepL.cut n ds xs l r⟩
 | .ktup ds,v,l,⟨a,xs,e,t,r⟩=>⟨a,xs,e,t,RepL.cut n ds xs l r⟩
 | .klst ds,v,l,⟨a,xs,e,t,r⟩=>⟨a,xs,e,by
   rcases t with t|t
   ·exact .inl ⟨t.1,zB0 t.2⟩
   ·exact .inr t,RepL.cut n ds xs l r⟩
 | .lst ds,v,l,⟨a,xs,e,t,r⟩=>⟨a,xs,e,⟨t.1,zB0 t.2⟩,RepL.cut n ds xs l r⟩
 | .dct _ ks vs,v,l,⟨a,o,xs,e,q,h,t,r⟩=>⟨a,o,xs,e,zB0 q,h,t,RepL.cut n vs xs (by
   have l:(DS.lowL n ks && DS.lowL n vs)=true:=l;rw[xl]at l;exact l.2) r⟩
 | .st ds,v,l,.inl ⟨xs,e,r⟩=>.inl ⟨xs,e.cut,RepL.cut n ds xs l r⟩
 | .st l,v,q,.inr ⟨a,C,dx,fr,xs,e,m,h,f,r⟩=>.inr ⟨a,C,dx,fr,xs,e,zB0 m,h,by
   rcases f with f|⟨d,e,m,f⟩
   ·exact .inl f
   ·exact .inr ⟨d,e,zB0 m,f⟩,RepX.cut n C l xs q r⟩
 | .ref m,v,l,⟨a,e,h⟩=>⟨a,by rw[v3 (uO l)];exact e,h⟩
theorem RepL.cut(n:Nat):∀(ds:List D) (xs:List V),DS.lowL n ds=true->RepL K J H ds xs->RepL K (J.take n) H ds xs
 | [],_,_,h=>h
 | d::ds,xs,l,⟨x,r,e,h,t⟩=>by
  have l:(d.low n && DS.lowL n ds)=true:=l;rw[xl]at l;exact⟨x,r,e,Rep.cut n d x l.1 h,RepL.cut n ds r l.2 t⟩
theorem RepX.cut(n:Nat)(C:Addr):∀(l:List D) (xs:List (Str × V)),DS.lowL n l=true->RepX K J H C l xs->RepX K (J.take n) H C l xs
 | .non::.int _::l,xs,q,h=>⟨h.1,RepF.cut n l xs (by
   have q:(true && (true && DS.lowL n l))=true:=q;exact q) h.2⟩
theorem RepF.cut(n:Nat):∀(l:List D) (xs:List (Str × V)),DS.lowL n l=true->RepF K J H l xs->RepF K (J.take n) H l xs
 | [],_,_,h=>h
 | .str _::d::l,xs,q,⟨x,r,e,h,t⟩=>by
  have q:(true && (d.low n && DS.lowL n l))=true:=q;rw[Bool.true_and,xl]at q;exact⟨x,r,e,Rep.cut n d x q.1 h,RepF.cut n l r q.2 t⟩
end
theorem ObD.cut{n:Nat}:∀{d:D},d.low n=true->ObD K J H d o->ObD K (J.take n) H d o
 | .lst ds,l,⟨xs,e,r⟩=>⟨xs,e,RepL.cut n ds xs l r⟩
 | .dct _ ks vs,l,⟨xs,t,r⟩=>⟨xs,t,RepL.cut n vs xs (by
   have l:(DS.lowL n ks && DS.lowL n vs)=true:=l;rw[xl]at l;exact l.2) r⟩
 | .non,_,h=>False.elim h
 | .bl _,_,h=>False.elim h
 | .int _,_,h=>False.elim h
 | .str _,_,h=>False.elim h
 | .ty _,_,h=>False.elim h
 | .tup _,_,h=>False.elim h
 | .ktup _,_,h=>False.elim h
 | .klst _,_,h=>False.elim h
 | .st _,_,h=>False.elim h
 | .ref _,_,h=>False.elim h
theorem zEn{n:Nat}:∀{S S':Store},DS.keeps n S S'->∀i,i<S.length->∃b,S'[i]?=some b/\(S[i]?=some b\/b.low n=true)
 | [],_,_,i,hi=>by simp at hi
 | a::r,[],h,_,_=>False.elim h
 | a::r,b::t,h,0,_=>⟨b,rfl,by
   rcases h.1 with e|e
   ·subst e;exact .inl rfl
   ·exact .inr e⟩
 | a::r,b::t,h,i+1,hi=>by simpa using zEn h.2 i (by simpa using hi)
theorem Grow.take(h:AbS K J S H)(g:Grow J H J' H'):J'.take S.length=J:=by
 refine uI λi=>?_
 by_cases hi:i<S.length
 ·rw[v3 hi];have hj:i<J.length:=by rw[h.len];exact hi
  rw[xo hj];exact g.pre i _ (xo hj)
 ·rw[x6 (by rw[vg];lia),x6 (by rw[h.len];lia)]
theorem Grow.cut(g:Grow J H J' H'):Grow J H J H':=⟨λ_ _ h=>h,λ_ h n=>absurd h n,g.keep,g.dom⟩
theorem AbS.cut(h:AbS K J S H)(g:Grow J H J' H')(h':AbS K J' S' H')(k:DS.keeps S.length S S'):AbS K J (S'.take S.length) H':=by
 have e:=g.take h;refine⟨?_,h'.tab,h.nd,λi a d ei q=>?_⟩
 ·have l:∀i,i<S.length->i<S'.length:=λi hi=>by
   obtain⟨b,eb,_⟩:=zEn k i hi;exact(xC.mp eb).1
  rw[h.len,vg];by_cases z:S.length=0
  ·lia
  ·have:=l (S.length-1) (by nofun);lia
 ·have hi:=h.lt ei;rw[v3 hi]at q;obtain⟨b,eb,lo⟩:=zEn k i hi;rw[q]at eb;cases eb;obtain⟨o,eo,r⟩:=h'.ob i a d (g.pre i a ei) q;have low:d.low S.length=true:=by
   rcases lo with lo|lo
   ·obtain⟨o',_,r'⟩:=h.ob i a d ei lo;have:=r'.low;rw[h.len]at this;exact this
   ·exact lo
  have:=r.cut low;rw[e]at this;exact⟨o,eo,this⟩
theorem zSx(h:AbS K J S H)(g:Grow J H J' H')(h':AbS K J' S' H')(r:Rep K J' H' d v)(e:DS.fin S d S'=.ok d2 S2):∃J2,AbS K J2 S2 H'/\Grow J H J2 H'/\Rep K J2 H' d2 v:=by
 have ek:=g.take h;unfold DS.fin at e;by_cases k:DS.keeps S.length S S'
 ·rw[xc k]at e;by_cases l:d.low S.length=true
  ·rw[xc l]at e;cases e;refine⟨J,h.cut g h' k,g.cut,?_⟩;have:=Rep.cut _ _ _ l r;rw[ek]at this;exact this
  ·rw[xf l]at e;cases d with
   | ref n=>
    obtain⟨a,ea,rfl⟩:=r;obtain⟨c,ec,o,eo,rc⟩:=h'.at ea;simp only[ec]at e;by_cases lc:c.low S.length=true
    ·rw[xc lc]at e;cases e;refine⟨J,h.cut g h' k,g.cut,?_⟩;have ha:a ∉ J:=λz=>by
      obtain⟨i,ei⟩:=uu.mp z;have hi:=h.lt ei;have e2:=g.pre i a ei;have:=(List.getElem?_inj (xC.mp e2).1 h'.nd).mp (e2.trans ea.symm);subst this;exact l (xj hi)
     have rc2:=rc.cut lc;rw[ek]at rc2;cases d2 with
     | lst ds=>obtain⟨xs,rfl,rl⟩:=rc2;exact⟨a,xs,rfl,⟨eo,ha⟩,rl⟩
     | dct _ ks vs=>obtain⟨xs,t,rl⟩:=rc2;exact⟨a,o,xs,rfl,ha,.inl eo,t,rl⟩
     | _=>exact False.elim rc2
    ·rw[xf lc]at e;cases e;exact⟨J',h',g,a,ea,rfl⟩
   | _=>cases e;exact⟨J',h',g,r⟩
 ·rw[xf k]at e;cases e;exact⟨J',h',g,r⟩
end
abbrev XE:=Exn->Store->Js->Hp->Prop
noncomputable def XE0:XE:=λ_ _ _ _=>False
def Post{α:Type}(K:PySem.W.Frag)(E:XE)(J:Js)(H:Hp)(r:Rs α)(P:α->Store->Js->Hp->Prop):Prop:=match r with
 | .ok a S=>∀J' H',AbS K J' S H'->Grow J H J' H'->P a S J' H'
 | .ex x S=>∀J' H',AbS K J' S H'->Grow J H J' H'->E x S J' H'
 | .bad=>False
def PostS(K:PySem.W.Frag)(E:XE)(J:Js)(H:Hp)(r:SR)(D:Ends):Prop:=match r with
 | .nx e S=>∀J' H' σ,AbS K J' S H'->Grow J H J' H'->RepE K J' H' e σ->D.nx σ H'
 | .rt d S=>∀J' H' v,AbS K J' S H'->Grow J H J' H'->Rep K J' H' d v->D.rt v H'
 | .bk e S=>∀J' H' σ,AbS K J' S H'->Grow J H J' H'->RepE K J' H' e σ->D.bk σ H'
 | .ct e S=>∀J' H' σ,AbS K J' S H'->Grow J H J' H'->RepE K J' H' e σ->D.ct σ H'
 | .ex x S=>∀J' H',AbS K J' S H'->Grow J H J' H'->E x S J' H'
 | .bad=>False
section
variable {α β:Type}{K:PySem.W.Frag}{E:XE}{J J1:Js}{H H1:Hp}{S:Store}
theorem Post.grow{r:Rs α}{P:α->Store->Js->Hp->Prop}(g:Grow J H J1 H1)(h:Post K E J H r P):Post K E J1 H1 r P:=by
 cases r with
 | ok a S=>exact λJ' H' h1 h2=>h J' H' h1 (g.trans h2)
 | ex x S=>exact λJ' H' h1 h2=>h J' H' h1 (g.trans h2)
 | bad=>exact h
theorem Post.bind{r:Rs α}{k:α->Store->Rs β}{P:β->Store->Js->Hp->Prop}(h:Post K E J H (r.bind k) P):Post K E J H r (λa S J' H'=>Post K E J' H' (k a S) P):=by
 cases r with
 | ok a S=>exact λJ' H' _ g=>Post.grow g h
 | ex x S=>exact h
 | bad=>exact h
theorem Post.imp{r:Rs α}{P P':α->Store->Js->Hp->Prop}(h:Post K E J H r P)(k:∀a S J' H',r=.ok a S->AbS K J' S H'->Grow J H J' H'->P a S J' H'->P' a S J' H'):Post K E J H r P':=by
 cases r with
 | ok a S=>exact λJ' H' h1 h2=>k a S J' H' rfl h1 h2 (h J' H' h1 h2)
 | ex x S=>exact h
 | bad=>exact h
theorem Post.map{r:Rs α}{P P':α->Store->Js->Hp->Prop}(h:Post K E J H r P)(k:∀a S J' H',r=.ok a S->AbS K J' S H'->Grow J H J' H'->(∀J2 H2,AbS K J2 S H2->Grow J H J2 H2->P a S J2 H2)->P' a S J' H'):Post K E J H r P':=by
 cases r with
 | ok a S=>exact λJ' H' h1 h2=>k a S J' H' rfl h1 h2 h
 | ex x S=>exact h
 | bad=>exact h
theorem Post.lift{o:Option α}{P:α->Store->Js->Hp->Prop}(h:Post K E J H (DS.lift o S) P):∃a,o=some a/\∀J' H',AbS K J' S H'->Grow J H J' H'->P a S J' H':=by
 cases o with
 | some a=>exact⟨a,rfl,h⟩
 | none=>exact False.elim h
theorem PostS.grow{r:SR}{D:Ends}(g:Grow J H J1 H1)(h:PostS K E J H r D):PostS K E J1 H1 r D:=by
 cases r with
 | nx e S=>exact λJ' H' σ h1 h2=>h J' H' σ h1 (g.trans h2)
 | bk e S=>exact λJ' H' σ h1 h2=>h J' H' σ h1 (g.trans h2)
 | ct e S=>exact λJ' H' σ h1 h2=>h J' H' σ h1 (g.trans h2)
 | rt e S=>exact λJ' H' σ h1 h2=>h J' H' σ h1 (g.trans h2)
 | ex x S=>exact λJ' H' h1 h2=>h J' H' h1 (g.trans h2)
 | bad=>exact h
theorem PostS.then{r:Rs α}{k:α->Store->SR}{D:Ends}(h:PostS K E J H (r.then k) D):Post K E J H r (λa S J' H'=>PostS K E J' H' (k a S) D):=by
 cases r with
 | ok a S=>exact λJ' H' _ g=>PostS.grow g h
 | ex x S=>exact h
 | bad=>exact h
end
section
variable (K:PySem.W.Frag) (E:XE)
noncomputable def tOf (m:DS.EM):TE:=λσ H Q=>∃env S J,AbS K J S H/\RepE K J H env σ/\Post K E J H (m env S) (λd _ J' H'=>∀v,Rep K J' H' d v->Q v H')
noncomputable def tOfF (m:DS.EM):TE:=λσ H Q=>∃env S J,AbS K J S H/\RepE K J H env σ/\Post K E J H (m env S) (λd _ J' H'=>∀p o,H' p=none->ObD K J' H' d o->Q (.ref p) (upd H' p o))
noncomputable def ttOf (m:DS.TM):TT:=λσ H Q=>∃env S J,AbS K J S H/\RepE K J H env σ/\Post K E J H (m env S) (λb _ _ H'=>Q b H')
noncomputable def aOf (m:DS.AM):TA:=λσ H Q=>∃env S J,AbS K J S H/\RepE K J H env σ/\Post K E J H (m env S) (λds _ J' H'=>∀vs,RepL K J' H' ds vs->Q vs H')
noncomputable def tsOf (m:DS.SM):TS:=λD σ H=>∃env S J,AbS K J S H/\RepE K J H env σ/\PostS K E J H (m env S) D
noncomputable def gOf (m:DS.GM):TG:=λv σ H Q=>∃env S J d env',AbS K J S H/\RepE K J H env σ/\Rep K J H d v/\m S d env=some env'/\∀σ',RepE K J H env' σ'->Q σ' H
noncomputable def gsOf (m:Store->List D->DS.Env->Option DS.Env):TGs:=λvs σ H Q=>∃env S J ds env',AbS K J S H/\RepE K J H env σ/\RepL K J H ds vs/\m S ds env=some env'/\∀σ',RepE K J H env' σ'->Q σ' H
structure ItOk (J0:Js) (H0:Hp) (w:DS.Walk) (I:It):Prop where
 go:∀(i:Nat) (H:Hp) (J:Js) (S:Store),AbS K J S H->Grow J0 H0 J H->DS.gOk S w.gd->i<w.its.length->I.go i H
 yld:∀(i:Nat) (H:Hp) (J:Js) (S:Store) (x:V) (H':Hp),AbS K J S H->Grow J0 H0 J H->DS.gOk S w.gd->I.yld i H x H'->∀d,w.its[i]?=some d->AbS K J S H'/\Grow J H J H'/\Rep K J H' d x
 stop:∀(i:Nat) (H:Hp) (J:Js) (S:Store),AbS K J S H->Grow J0 H0 J H->DS.gOk S w.gd->w.its.length<=i->I.stop i H
noncomputable def iOf (m:DS.IM):TI:=λσ H R=>∃env S J,AbS K J S H/\RepE K J H env σ/\Post K E J H (m env S) (λw _ J' H'=>∀I,ItOk K J' H' w I->R I H')
noncomputable def r2Of (g:Store->D->D->Option D):R2:=λx y H Q=>∃J S d1 d2 d,AbS K J S H/\Rep K J H d1 x/\Rep K J H d2 y/\g S d1 d2=some d/\∀v H',AbS K J S H'->Grow J H J H'->Rep K J H' d v->Q v H'
def r1Of(g:Store->D->Option D):V->Hp->VK->Prop:=λx H Q=>∃J S d1 d,AbS K J S H/\Rep K J H d1 x/\g S d1=some d/\∀v H',AbS K J S H'->Grow J H J H'->Rep K J H' d v->Q v H'
def cOf(g:Store->List D->Option D):List V->Hp->VK->Prop:=λxs H Q=>∃J S ds d,AbS K J S H/\RepL K J H ds xs/\g S ds=some d/\∀v H',AbS K J S H'->Grow J H J H'->Rep K J H' d v->Q v H'
noncomputable def yBa (g:Store->D->D->Option D):R2:=λx y H Q=>∃J S d1 d2 d,AbS K J S H/\Rep K J H d1 x/\Rep K J H d2 y/\g S d1 d2=some d/\∀p o H',AbS K J S H'->Grow J H J H'->H' p=none->ObD K J H' d o->Q (.ref p) (upd H' p o)
def mOf(g:Store->D->List D->Option (D × Store)):V->List V->Hp->VK->Prop:=λx xs H Q=>∃J S d1 ds d S',AbS K J S H/\Rep K J H d1 x/\RepL K J H ds xs/\g S d1 ds=some (d,S')/\∀v H',AbS K J S' H'->Grow J H J H'->Rep K J H' d v->Q v H'
noncomputable def spOf (F:DS.Fn):Sp:=λvs H Q _=>∃J S ds,AbS K J S H/\RepL K J H ds vs/\Post K E J H (F ds S) (λd _ J' H'=>∀v,Rep K J' H' d v->Q v H')
end
structure DE (X:Cx) (K:PySem.W.Frag) (E:XE) (e:Expr) (m:DS.EM):Prop where h:SE X e (tOf K E m)
structure DF (X:Cx) (K:PySem.W.Frag) (E:XE) (e:Expr) (m:DS.EM):Prop where h:SE X e (tOfF K E m)
structure DT (X:Cx) (K:PySem.W.Frag) (E:XE) (e:Expr) (m:DS.TM):Prop where h:ST X e (ttOf K E m)
structure DW (X:Cx) (K:PySem.W.Frag) (E:XE) (e:Expr) (m:DS.TM):Prop where h:SW X e (ttOf K E m)
structure DIf (X:Cx) (K:PySem.W.Frag) (E:XE) (es:List Expr) (m:DS.TM):Prop where h:SIfs X es (ttOf K E m)
structure DA (X:Cx) (K:PySem.W.Frag) (E:XE) (es:List Expr) (m:DS.AM):Prop where
 h:SA X es (aOf K E m)
 len:∀env S ds S',m env S=.ok ds S'->ds.length=es.length
structure DS1 (X:Cx) (K:PySem.W.Frag) (E:XE) (st:Stmt) (m:DS.SM):Prop where h:SS X st (tsOf K E m)
structure DSs (X:Cx) (K:PySem.W.Frag) (E:XE) (st:List Stmt) (m:DS.SM):Prop where h:SSs X st (tsOf K E m)
structure DG (X:Cx) (K:PySem.W.Frag) (e:Expr) (m:DS.GM):Prop where h:SG X e (gOf K m)
structure DGs (X:Cx) (K:PySem.W.Frag) (es:List Expr) (m:List DS.GM):Prop where h:SGs X es (gsOf K (DS.gAll m))
structure DI (X:Cx) (K:PySem.W.Frag) (E:XE) (tg e:Expr) (m:DS.IM):Prop where h:SI X tg e (iOf K E m)
section
variable {X:Cx}{K:PySem.W.Frag}{E:XE}{e a b c:Expr}{es:List Expr}{p pos:Pos}{m ma mb mc:DS.EM}{mt mu:DS.TM}
theorem SE.imp{t t':TE}(h:SE X e t)(k:∀σ H Q,t' σ H Q->t σ H Q):SE X e t':=⟨λpins s σ H Q I q=>h.h pins s σ H Q I (k σ H Q q)⟩
theorem ST.imp{t t':TT}(h:ST X e t)(k:∀σ H Q,t' σ H Q->t σ H Q):ST X e t':=⟨λpins s σ H Q I q=>h.h pins s σ H Q I (k σ H Q q)⟩
theorem SW.imp{t t':TT}(h:SW X e t)(k:∀σ H Q,t' σ H Q->t σ H Q):SW X e t':=⟨λwhole pins s σ H Q I q=>h.h whole pins s σ H Q I (k σ H Q q)⟩
theorem SIfs.imp{t t':TT}(h:SIfs X es t)(k:∀σ H Q,t' σ H Q->t σ H Q):SIfs X es t':=⟨λpins s σ H Q I q=>h.h pins s σ H Q I (k σ H Q q)⟩
theorem SA.imp{t t':TA}(h:SA X es t)(k:∀σ H Q,t' σ H Q->t σ H Q):SA X es t':=⟨λpos pins s σ H Q I q=>h.h pos pins s σ H Q I (k σ H Q q)⟩
theorem SS.imp{st:Stmt}{t t':TS}(h:SS X st t)(k:∀D σ H,t' D σ H->t D σ H):SS X st t':=⟨λpins s σ H D I q=>h.h pins s σ H D I (k D σ H q)⟩
theorem SSs.imp{st:List Stmt}{t t':TS}(h:SSs X st t)(k:∀D σ H,t' D σ H->t D σ H):SSs X st t':=⟨λpins s σ H D I q=>h.h pins s σ H D I (k D σ H q)⟩
theorem SG.imp{t t':TG}(h:SG X e t)(k:∀v σ H Q,t' v σ H Q->t v σ H Q):SG X e t':=⟨λpins s σ H v u Q I r q=>h.h pins s σ H v u Q I r (k v σ H Q q)⟩
theorem SGs.imp{t t':TGs}(h:SGs X es t)(k:∀v σ H Q,t' v σ H Q->t v σ H Q):SGs X es t':=⟨λpins s σ H v u Q I r q=>h.h pins s σ H v u Q I r (k v σ H Q q)⟩
theorem SI.imp{t t':TI}(h:SI X tg e t)(k:∀σ H R,t' σ H R->t σ H R):SI X tg e t':=⟨λpins s σ H R I q=>h.h pins s σ H R I (k σ H R q)⟩
theorem ObD.rep{K:PySem.W.Frag}{J:Js}{S:Store}{H:Hp}{d:D}{o:HO}{p:Addr}(ha:AbS K J S H)(n:H p=none)(r:ObD K J H d o):Rep K J (upd H p o) d (.ref p):=by
 have r2:=r.grow (Grow.push (o:=o) n);have hp:=ha.out n;cases d with
 | lst ds=>obtain⟨xs,rfl,rl⟩:=r2;exact⟨p,xs,rfl,⟨zAb,hp⟩,rl⟩
 | dct _ ks vs=>obtain⟨xs,t,rl⟩:=r2;exact⟨p,o,xs,rfl,hp,.inl zAb,t,rl⟩
 | _=>exact False.elim r2
theorem yCe(h:DF X K E e m):DE X K E e m:=⟨h.h.imp λσ H Q ⟨env,S,J,ha,he,q⟩=>⟨env,S,J,ha,he,q.map λd S' J' H' _ h1 g k p o n r=>
 k J' (upd H' p o) (h1.push n r.nt) (g.trans (.push n)) (.ref p) (r.rep h1 n)⟩⟩
theorem yAl(h:DF X K E e m):DE X K E e (DS.eNew m):=⟨h.h.imp λσ H Q ⟨env,S,J,ha,he,q⟩=>⟨env,S,J,ha,he,q.bind.map λd S' J' H' _ h1 g k p o n r=>
 k J' H' h1 g (J'++[p]) (upd H' p o) (h1.name n r) (.name n) (.ref p) ⟨p,by rw[<- h1.len,xM (xh _)];simp,rfl⟩⟩⟩
theorem yAe(i:Nat)(hN:X.N[i]?=some x:=by rfl)(hv:Vis X.env.scope x:=by first|exact Or.inl rfl|exact Or.inr (Or.inl rfl)|exact Or.inr (Or.inr rfl))(hd:(x == ("__debug__":Str))=false:=by decide)
  (hcd:(x == ("__classdict__":Str))=false:=by decide):DE X K E (.Name x pos) (DS.eVar i):=⟨(pv' i hN hv hd hcd).imp λσ H Q hq2=>by
 obtain⟨env,S,J,ha,he,q⟩:=hq2;unfold DS.eVar at q;cases e1:env[i]? with
 | none=>rw[e1]at q;exact False.elim q
 | some o=>
  cases o with
  | none=>rw[e1]at q;exact False.elim q
  | some d=>
   rw[e1]at q;obtain⟨v,ev,r⟩:=he.get i d e1;exact⟨v,ev,q J H ha .refl v r⟩⟩
theorem de_c(h:SE X e (tC v))(r:∀J H,Rep K J H d v):DE X K E e (DS.eC d):=⟨h.imp λσ H Q hz2=>by obtain⟨env,S,J,ha,he,q⟩:=hz2;exact q J H ha .refl v (r J H)⟩
theorem zT2{i:Int}:DE X K E (.Constant (.int i) j pos) (DS.eC (.int i)):=de_c zUs λ_ _=>rfl
theorem yCm :DE X K E (.Constant (.bool i) j pos) (DS.eC (.bl i)):=de_c zYp λ_ _=>rfl
theorem yAk :DE X K E (.Constant .none j pos) (DS.eC .non):=de_c zUq λ_ _=>rfl
theorem yAh :DE X K E (.Constant (.str i) j pos) (DS.eC (.str i)):=de_c zUo λ_ _=>rfl
theorem yCa(hg:Gl X x)(hm:X.mg x=none)(hv:bootBuiltins x=some u)(r:RelV (.ty T) u)(hn:x≠"__name__":=by decide)(hd:(x == ("__debug__":Str))=false:=by decide):DE X K E (.Name x pos) (DS.eC (.ty T)):=de_c (zQx hg hm hv r hn hd) λ_ _=>rfl
theorem zJj{r:R2}{g:Store->D->D->Option D}(hr:∀x y H Q,r2Of K g x y H Q->r x y H Q):∀σ H Q,tOf K E (DS.eOp g ma mb) σ H Q->tOp r (tOf K E ma) (tOf K E mb) σ H Q:=λσ H Q ⟨env,S,J,ha,he,q⟩=>
 ⟨env,S,J,ha,he,q.bind.imp λd1 S1 J1 H1 _ a1 g1 q1 x rx=>⟨env,S1,J1,a1,he.grow g1,q1.bind.imp λd2 S2 J2 H2 _ a2 g2 q2 y ry=>by
  obtain⟨d,e,k⟩:=q2.lift;exact hr _ _ _ _ ⟨J2,S2,d1,d2,d,a2,Rep.grow g2 _ _ rx,ry,e,λv H' h1 h2 h3=>k J2 H' h1 h2 v h3⟩⟩⟩
theorem yCd{g:Store->D->D->Option D}(ho:OpR X (binaryOp op) (r2Of K g))(ha:DE X K E a ma)(hb:DE X K E b mb):DE X K E (.BinOp a op b pos) (DS.eOp g ma mb):=⟨(zYg ho ha.h hb.h).imp (zJj λ_ _ _ _ h=>h)⟩
theorem yAn{g:Store->D->D->Option D}(ho:OpR X (compareOp op) (r2Of K g))(ha:DE X K E a ma)(hb:DE X K E b mb)(hm:behindInMarks op b=false):DE X K E (.Compare a [op] [b] pos) (DS.eOp g ma mb):=⟨(zQu ho ha.h hb.h hm).imp (zJj λ_ _ _ _ h=>h)⟩
theorem yCi{g:Store->D->D->Option D}(hr:IxR X (r2Of K g))(ha:DE X K E a ma)(hb:DE X K E b mb)(h:nsl b=true:=by rfl):DE X K E (.Subscript a b pos) (DS.eOp g ma mb):=⟨(qix' hr ha.h hb.h h).imp (zJj λ_ _ _ _ h=>h)⟩
theorem yAf{g:Store->D->Option D}(ho:UnR X (unaryOp op) (r1Of K g))(ha:DE X K E a ma):DE X K E (.UnaryOp op a pos) (DS.eUn g ma):=⟨(zYc ho ha.h).imp λσ H Q ⟨env,S,J,h,he,q⟩=>
 ⟨env,S,J,h,he,q.bind.imp λd1 S1 J1 H1 _ a1 g1 q1 x rx=>by
  obtain⟨d,e,k⟩:=q1.lift;exact⟨J1,S1,d1,d,a1,rx,e,λv H' h1 h2 h3=>k J1 H' h1 h2 v h3⟩⟩⟩
theorem yAq:DA X K E [] DS.aNil:=⟨pa_nil'.imp λσ H Q hz3=>by obtain⟨env,S,J,ha,he,q⟩:=hz3;exact q J H ha .refl [] rfl,λ_ _ _ _ e=>by cases e;rfl⟩
theorem zWu(ha:DE X K E e m)(hr:DA X K E es am)(h:nst e=true:=by rfl):DA X K E (e::es) (DS.zA0 m am):=by
 refine⟨(qa' ha.h hr.h h).imp λσ H Q ⟨env,S,J,h,he,q⟩=>⟨env,S,J,h,he,q.bind.imp λd1 S1 J1 H1 _ a1 g1 q1 x rx=>⟨env,S1,J1,a1,he.grow g1,q1.bind.imp λd2 S2 J2 H2 _ a2 g2 q2 ys ry=>
  q2 J2 H2 a2 .refl (x::ys) ⟨x,ys,rfl,Rep.grow g2 _ _ rx,ry⟩⟩⟩,λenv S ds S' e1=>?_⟩
 unfold DS.zA0 at e1;cases e2:m env S with
 | ok d S1=>
  rw[e2,Rs.bind_ok]at e1;cases e3:am env S1 with
  | ok dr S2=>rw[e3,Rs.bind_ok]at e1;cases e1;simp[hr.len _ _ _ _ e3]
  | _=>rw[e3]at e1;cases e1
 | _=>rw[e2]at e1;cases e1
theorem z1000{n:Nat}(h:n<=1000):n<=sizeLine:=xq h (by decide)
theorem yAg(h:DA X K E es am)(hz:es.length<=1000:=by decide):DE X K E (.Tuple es k pos) (DS.eTup am):=⟨(zUn h.h).imp λσ H Q ⟨env,S,J,ha,he,q⟩=>
 ⟨env,S,J,ha,he,q.bind.imp λds S1 J1 H1 e1 a1 g1 q1 xs rx=>⟨by rw[<- rx.length,h.len _ _ _ _ e1];exact z1000 hz,λp n=>
  q1 J1 (upd H1 p (.tup xs)) (a1.push n) (.push n) (.ref p) ⟨p,xs,rfl,⟨zAb,a1.out n⟩,RepL.grow (.push n) _ _ rx⟩⟩⟩⟩
theorem yAd(h:DA X K E es am)(hz:es.length<=1000:=by decide):DF X K E (.List es pos) (DS.eLst am):=⟨(zUr h.h).imp λσ H Q ⟨env,S,J,ha,he,q⟩=>
 ⟨env,S,J,ha,he,q.bind.imp λds S1 J1 H1 e1 a1 g1 q1 xs rx=>⟨by rw[<- rx.length,h.len _ _ _ _ e1];exact z1000 hz,λp n=>
  q1 J1 H1 a1 .refl p (.lst xs) n ⟨xs,rfl,rx⟩⟩⟩⟩
theorem yAt{r:List V->Hp->VK->Prop}{g:Store->List D->Option D}(hr:∀xs H Q,cOf K g xs H Q->r xs H Q):∀σ H Q,tOf K E (DS.eCB g am) σ H Q->tCB r (aOf K E am) σ H Q:=λσ H Q ⟨env,S,J,ha,he,q⟩=>
 ⟨env,S,J,ha,he,q.bind.imp λds S1 J1 H1 _ a1 g1 q1 xs rx=>by
  obtain⟨d,e,k⟩:=q1.lift;exact hr _ _ _ ⟨J1,S1,ds,d,a1,rx,e,λv H' h1 h2 h3=>k J1 H' h1 h2 v h3⟩⟩
theorem yCl{x:Str}{id:String}{am:DS.AM}{g:Store->List D->Option D}(hc:zB9 X (.builtin id) (cOf K g))(hg:Gl X x)(hm:X.mg x=none)(hv:bootBuiltins x=some (.builtin id))(ha:DA X K E (e::es) am)(hn:x≠"__name__":=by decide)(hdb:(x == ("__debug__":Str))=false:=by decide)
  (h:(e::es).all nst=true:=by rfl):DE X K E (.Call (.Name x p) (e::es) [] pos) (DS.eCB g am):=⟨(zU7 hc hg hm hv ha.h hn hdb h).imp (yAt λ_ _ _ h=>h)⟩
theorem yCk{g:Store->List D->Option D}(hc:zB9 X (.type T) (cOf K g))(hg:Gl X x)(hm:X.mg x=none)(hv:bootBuiltins x=some (.type T))(ha:DA X K E (e::es) am)(hn:x≠"__name__":=by decide)(hdb:(x == ("__debug__":Str))=false:=by decide)
  (h:(e::es).all nst=true:=by rfl):DE X K E (.Call (.Name x p) (e::es) [] pos) (DS.eCB g am):=⟨(zU6 hc hg hm hv ha.h hn hdb h).imp (yAt λ_ _ _ h=>h)⟩
theorem zWt(C:Cal X.prog X.w X.K X.mg X.base x k ps (spOf K E F))(hr:Room k X.A)(hg:Gl X x)(ha:DA X K E (e::es) am)(hdb:(x == ("__debug__":Str))=false:=by decide)
  (h:(e::es).all nst=true:=by rfl):DE X K E (.Call (.Name x p) (e::es) [] pos) (DS.zA3 F am):=⟨(qcal' C hr hg ha.h hdb h).imp λσ H Q ⟨env,S,J,h,he,q⟩=>
 ⟨env,S,J,h,he,q.bind.imp λds S1 J1 H1 _ a1 g1 q1 xs rx=>by
  show spOf K E F (xs++[]) H1 Q E0;rw[xY];exact⟨J1,S1,ds,a1,rx,q1⟩⟩⟩
theorem zXc(ha:AbS K J S H)(r:Rep K J H d v)(hT:T="str"\/T="list"\/T="dict")(h:DS.tyD S d=some T):tyV K T v H:=by
 cases d with
 | str x=>obtain rfl:=r;cases h;exact rfl
 | lst ds=>obtain⟨a,xs,rfl,t,_⟩:=r;cases h;exact .inl ⟨rfl,xs,t.sq⟩
 | klst ds=>obtain⟨a,xs,rfl,t,_⟩:=r;cases h;exact .inl ⟨rfl,xs,t.sq⟩
 | dct _ ks vs=>
  obtain⟨a,o,xs,rfl,_,e,t,_⟩:=r;cases h;refine .inr (.inr (.inl ⟨rfl,?_⟩));rcases t with⟨_,kvs,rfl,_⟩|⟨_,kvs,rfl,_⟩
  ·exact .inl ⟨kvs,e⟩
  ·exact .inr ⟨kvs,e⟩
 | ref n=>
  obtain⟨a,ea,rfl⟩:=r;obtain⟨c,ec,o,eo,rc⟩:=ha.at ea;have el:DS.look S (.ref n)=some c:=ec;unfold DS.tyD at h;rw[el]at h;cases c with
  | lst ds=>cases h;obtain⟨xs,rfl,_⟩:=rc;exact .inl ⟨rfl,xs,.inl (.inl eo)⟩
  | dct _ ks vs=>
   cases h;obtain⟨xs,t,_⟩:=rc;refine .inr (.inr (.inl ⟨rfl,?_⟩));rcases t with⟨_,kvs,rfl,_⟩|⟨_,kvs,rfl,_⟩
   ·exact .inl ⟨kvs,.inl eo⟩
   ·exact .inr ⟨kvs,.inl eo⟩
  | _=>exact False.elim rc
 | _=>first|(cases h;rcases hT with z|z|z <;> exact absurd z (by decide))|cases h
theorem zZ3{r:V->List V->Hp->VK->Prop}{g:Store->D->List D->Option (D × Store)}(hT:T="str"\/T="list"\/T="dict")(hr:∀x xs H Q,mOf K g x xs H Q->r x xs H Q):∀σ H Q,tOf K E (DS.eMt T g ma am) σ H Q->tBM K T r (tOf K E ma) (aOf K E am) σ H Q:=λσ H Q ⟨env,S,J,ha,he,q⟩=>
 ⟨env,S,J,ha,he,q.bind.imp λd1 S1 J1 H1 _ a1 g1 q1 x rx=>by
  by_cases hty:DS.tyD S1 d1=some T
  ·rw[xc hty]at q1;refine⟨zXc a1 rx hT hty,env,S1,J1,a1,he.grow g1,q1.bind.imp λds S2 J2 H2 _ a2 g2 q2 xs rs=>?_⟩;cases e:g S2 d1 ds with
   | none=>rw[e]at q2;exact False.elim q2
   | some w=>
    rw[e]at q2;exact hr _ _ _ _ ⟨J2,S2,d1,ds,w.1,w.2,a2,Rep.grow g2 _ _ rx,rs,e,λv H' h1 h2 h3=>q2 J2 H' h1 h2 v h3⟩
  ·rw[xf hty]at q1;exact False.elim q1⟩
theorem yCf{T name id:_}{o:Expr}{apos cpos:Pos}{g:Store->D->List D->Option (D × Store)}{mo:DS.EM}{am:DS.AM}(pa:PlainAttrs T)(slot:Slot T name id)(hty:typeOf (.builtin id)=pure (.type "method_descriptor"))(hm:MtR X id (mOf K g))
  (hT:T="str"\/T="list"\/T="dict") (ho:DE X K E o mo) (ha:DA X K E (e::es) am) (h:nba o=true:=by rfl) (hs:(e::es).all nst=true:=by rfl)
  (hlen:decide ((e::es).length+0+0<30)=true:=by rfl) (hline:(apos.endLine == cpos.line)=true:=by rfl) (hK:X.K=K:=by rfl):DE X K E (.Call (.Attribute o name apos) (e::es) [] cpos) (DS.eMt T g mo am):=by
 subst hK;exact⟨(zYo pa slot hty hm ho.h ha.h h hs hlen hline).imp (zZ3 hT λ_ _ _ _ h=>h)⟩
theorem yAm{T name id:_}{o:Expr}{apos cpos:Pos}{g:Store->D->List D->Option (D × Store)}{mo:DS.EM}(pa:PlainAttrs T)(slot:Slot T name id)(hty:typeOf (.builtin id)=pure (.type "method_descriptor"))(hm:MtR X id (mOf K g))
  (hT:T="str"\/T="list"\/T="dict") (ho:DE X K E o mo) (h:nba o=true:=by rfl) (hline:(apos.endLine == cpos.line)=true:=by rfl) (hK:X.K=K:=by rfl):DE X K E (.Call (.Attribute o name apos) [] [] cpos) (DS.eMt T g mo DS.aNil):=by
 subst hK;refine⟨(qbm0' pa slot hty hm ho.h h hline).imp λσ H Q h=>?_⟩;obtain⟨env,S,J,ha,he,q⟩:=zZ3 hT (λ_ _ _ _ h=>h) σ H Q h;refine⟨env,S,J,ha,he,q.imp λd1 S1 J1 H1 _ a1 g1 q1 x rx=>?_⟩;obtain⟨ht,env',S',J',ha',he',q'⟩:=q1 x rx;exact⟨ht,q' J' H1 ha' .refl [] rfl⟩
noncomputable def poOf (K:PySem.W.Frag) (E:XE) (m:DS.Env->Store->Rs (Option Int)):TO:=λσ H Q=>∃env S J,AbS K J S H/\RepE K J H env σ/\Post K E J H (m env S) (λoi _ _ H'=>Q oi H')
structure DO (X:Cx) (K:PySem.W.Frag) (E:XE) (e:Option Expr) (m:DS.Env->Store->Rs (Option Int)):Prop where h:SO X e (poOf K E m)
theorem SO.imp{t t':TO}(h:SO X o t)(k:∀σ H Q,t' σ H Q->t σ H Q):SO X o t':=⟨λpins s σ H Q I q=>h.h pins s σ H Q I (k σ H Q q)⟩
theorem yC7:DO X K E none DS.pNo:=⟨po_none'.imp λσ H Q hz4=>by obtain⟨env,S,J,ha,he,q⟩:=hz4;exact q J H ha .refl⟩
theorem yA9(h:DE X K E e m):DO X K E (some e) (DS.pYes m):=⟨(zQi h.h).imp λσ H Q ⟨env,S,J,ha,he,q⟩=>⟨env,S,J,ha,he,q.bind.imp λd S1 J1 H1 _ a1 g1 q1 x rx=>by
 obtain⟨oi,e,k⟩:=q1.lift;cases d with
 | int i=>cases e;obtain rfl:=rx;exact⟨i,rfl,k J1 H1 a1 .refl⟩
 | _=>cases e⟩⟩
def slOf(K:PySem.W.Frag)(g:Store->D->Option Int->Option Int->Option D):V->Option Int->Option Int->Hp->VK->Prop:=λx lo hi H Q=>∃J S d1 d,AbS K J S H/\Rep K J H d1 x/\g S d1 lo hi=some d/\∀v H',AbS K J S H'->Grow J H J H'->Rep K J H' d v->Q v H'
theorem yCb{g:Store->D->Option Int->Option Int->Option D}{lo hi:Option Expr}{ml mh:DS.Env->Store->Rs (Option Int)}{p2:Pos}(hr:SlR X (slOf K g))(he:DE X K E e m)(hl:DO X K E lo ml)(hu:DO X K E hi mh):DE X K E (.Subscript e (.Slice lo hi none p2) pos) (DS.eSl g m ml mh):=
 ⟨(zMz hr he.h hl.h hu.h).imp λσ H Q ⟨env,S,J,ha,he,q⟩=>⟨env,S,J,ha,he,q.bind.imp λd S1 J1 H1 _ a1 g1 q1 x rx=>⟨env,S1,J1,a1,he.grow g1,q1.bind.imp λl S2 J2 H2 _ a2 g2 q2=>
  ⟨env,S2,J2,a2,he.grow (g1.trans g2),q2.bind.imp λh S3 J3 H3 _ a3 g3 q3=>by
   obtain⟨r,er,k⟩:=q3.lift;exact⟨J3,S3,d,r,a3,Rep.grow (g2.trans g3) _ _ rx,er,λv H' h1 h2 h3=>k J3 H' h1 h2 v h3⟩⟩⟩⟩⟩
theorem zKk(e:DS.asB d=some k)(r:Rep K J H d x):x=.bl k:=by
 cases d with
 | bl i=>cases e;exact r
 | _=>cases e
theorem zXg:∀σ H Q,ttOf K E (DS.tB m) σ H Q->tOf K E m σ H (λx H'=>∃k,x=.bl k/\Q k H'):=λσ H Q ⟨env,S,J,ha,he,q⟩=>⟨env,S,J,ha,he,q.bind.imp λd S1 J1 H1 _ a1 g1 q1 x rx=>by
 obtain⟨k,e,z⟩:=q1.lift;exact⟨k,zKk e rx,z J1 H1 a1 .refl⟩⟩
theorem yA8{g:Store->D->D->Option D}(ho:OpR X (compareOp op) (r2Of K g))(ha:DE X K E a ma)(hb:DE X K E b mb)(hm:behindInMarks op b=false):DT X K E (.Compare a [op] [b] pos) (DS.tB (DS.eOp g ma mb)):=
 ⟨(zQe ho ha.h hb.h hm).imp λσ H Q h=>zJj (λ_ _ _ _ h=>h) σ H _ (zXg σ H Q h)⟩
theorem zKg{g g':Store->D->D->Option D}:∀σ H Q,tOf K E (DS.zBg g g' ma mb mc) σ H Q->zGx (r2Of K g) (r2Of K g') (tOf K E ma) (tOf K E mb) (tOf K E mc) σ H Q:=λσ H Q ⟨env,S,J,ha,he,q⟩=>
 ⟨env,S,J,ha,he,q.bind.imp λd1 S1 J1 H1 _ a1 g1 q1 x rx=>⟨env,S1,J1,a1,he.grow g1,q1.bind.imp λd2 S2 J2 H2 _ a2 g2 q2 y ry=>by
  obtain⟨z,ez,k⟩:=q2.bind.lift;refine⟨J2,S2,d1,d2,z,a2,Rep.grow g2 _ _ rx,ry,ez,λv H3 a3 g3 rv=>?_⟩;obtain⟨b,eb,k2⟩:=(k J2 H3 a3 g3).bind.lift;refine⟨b,zKk eb rv,?_⟩;have k3:=k2 J2 H3 a3 .refl;cases b with
  | false=>exact k3 J2 H3 a3 .refl _ rfl
  | true=>
   refine⟨env,S2,J2,a3,he.grow (g1.trans (g2.trans g3)),k3.bind.imp λd4 S4 J4 H4 _ a4 g4 q4 w rw=>?_⟩;obtain⟨d,e,k⟩:=q4.lift;exact⟨J4,S4,d2,d4,d,a4,Rep.grow (g3.trans g4) _ _ ry,rw,e,λv H' h1 h2 h3=>k J4 H' h1 h2 v h3⟩⟩⟩
theorem zRu{g g':Store->D->D->Option D}(ho:OpR X (compareOp op) (r2Of K g))(ho':OpR X (compareOp op') (r2Of K g'))(ha:DE X K E a ma)(hb:DE X K E b mb)(hc:DE X K E c mc)(hm:lastMarks [op,op'] [b,c]=false:=by with_unfolding_all rfl):
  DT X K E (.Compare a [op,op'] [b,c] pos) (DS.tB (DS.zBg g g' ma mb mc)):=⟨(zMs ho ho' ha.h hb.h hc.h hm).imp λσ H Q h=>zKg σ H _ (zXg σ H Q h)⟩
theorem zRy{g g':Store->D->D->Option D}(ho:OpR X (compareOp op) (r2Of K g))(ho':OpR X (compareOp op') (r2Of K g'))(ha:DE X K E a ma)(hb:DE X K E b mb)(hc:DE X K E c mc)(hm:lastMarks [op,op'] [b,c]=false:=by with_unfolding_all rfl):
  DE X K E (.Compare a [op,op'] [b,c] pos) (DS.zBg g g' ma mb mc):=⟨(zN1 ho ho' ha.h hb.h hc.h hm).imp zKg⟩
theorem yA7(ha:DT X K E a mt):DT X K E (.UnaryOp .Not a pos) (DS.tNot mt):=⟨(zUb ha.h).imp λσ H Q hz5=>by obtain⟨env,S,J,ha,he,q⟩:=hz5;exact ⟨env,S,J,ha,he,q.bind.imp λk S1 J1 H1 _ a1 g1 q1=>q1 J1 H1 a1 .refl⟩⟩
theorem zWd(ha:DT X K E a mt):DW X K E (.BoolOp .And [a] pos) mt:=⟨zQc ha.h⟩
theorem zZy(ha:DT X K E a mt):DW X K E (.BoolOp .Or [a] pos) mt:=⟨zU8 ha.h⟩
theorem zZz(ha:DT X K E a mt)(hb:DW X K E (.BoolOp .And (b::es) pos) mu):DW X K E (.BoolOp .And (a::b::es) pos) (DS.tAnd mt mu):=⟨(zUa ha.h hb.h).imp λσ H Q ⟨env,S,J,ha,he,q⟩=>⟨env,S,J,ha,he,q.bind.imp λk S1 J1 H1 _ a1 g1 q1=>by
 cases k with
 | true=>exact⟨env,S1,J1,a1,he.grow g1,q1⟩
 | false=>exact q1 J1 H1 a1 .refl⟩⟩
theorem yC3(ha:DT X K E a mt)(hb:DW X K E (.BoolOp .Or (b::es) pos) mu):DW X K E (.BoolOp .Or (a::b::es) pos) (DS.tOr mt mu):=⟨(zXz ha.h hb.h).imp λσ H Q ⟨env,S,J,ha,he,q⟩=>⟨env,S,J,ha,he,q.bind.imp λk S1 J1 H1 _ a1 g1 q1=>by
 cases k with
 | true=>exact q1 J1 H1 a1 .refl
 | false=>exact⟨env,S1,J1,a1,he.grow g1,q1⟩⟩⟩
theorem dt_w(h:DW X K E e mt):DT X K E e mt:=⟨zXx h.h⟩
theorem yAp(ha:DE X K E a ma)(hb:DE X K E (.BoolOp .And (b::es) pos) mb):DE X K E (.BoolOp .And (a::b::es) pos) (DS.eAnd ma mb):=⟨(zUx ha.h hb.h).imp λσ H Q ⟨env,S,J,ha,he,q⟩=>⟨env,S,J,ha,he,q.bind.imp λd S1 J1 H1 _ a1 g1 q1 x rx=>by
 obtain⟨k,e,z⟩:=q1.bind.lift;have z:=z J1 H1 a1 .refl;refine⟨k,zKk e rx,?_⟩;cases k with
 | true=>exact⟨env,S1,J1,a1,he.grow g1,z⟩
 | false=>exact z J1 H1 a1 .refl _ rfl⟩⟩
theorem yCc(ha:DE X K E a ma)(hb:DE X K E (.BoolOp .Or (b::es) pos) mb):DE X K E (.BoolOp .Or (a::b::es) pos) (DS.eOr ma mb):=⟨(zYf ha.h hb.h).imp λσ H Q ⟨env,S,J,ha,he,q⟩=>⟨env,S,J,ha,he,q.bind.imp λd S1 J1 H1 _ a1 g1 q1 x rx=>by
 obtain⟨k,e,z⟩:=q1.bind.lift;have z:=z J1 H1 a1 .refl;refine⟨k,zKk e rx,?_⟩;cases k with
 | true=>exact z J1 H1 a1 .refl _ rfl
 | false=>exact⟨env,S1,J1,a1,he.grow g1,z⟩⟩⟩
theorem yAj(ha:DE X K E a ma):DE X K E (.BoolOp op [a] pos) ma:=⟨zUp ha.h⟩
theorem yCj(hc:DT X K E c mt)(ha:DE X K E a ma)(hb:DE X K E b mb):DE X K E (.IfExp c a b pos) (DS.eIf mt ma mb):=⟨(zN0 hc.h ha.h hb.h).imp λσ H Q ⟨env,S,J,ha,he,q⟩=>⟨env,S,J,ha,he,q.bind.imp λk S1 J1 H1 _ a1 g1 q1=>by
 cases k with
 | true=>exact⟨env,S1,J1,a1,he.grow g1,q1⟩
 | false=>exact⟨env,S1,J1,a1,he.grow g1,q1⟩⟩⟩
theorem zWp:DIf X K E [] DS.tYes:=⟨pifs_nil'.imp λσ H Q hz6=>by obtain⟨env,S,J,ha,he,q⟩:=hz6;exact q J H ha .refl⟩
theorem zWo(h:DT X K E c mt):DIf X K E [c] mt:=⟨zMw h.h⟩
theorem zBw{J:Js}{H:Hp}{ds:List D}{xs:List V}(r:RepL K J H ds xs):decide (ds≠[])=!xs.isEmpty:=by
 cases ds with
 | nil=>cases r;simp
 | cons d ds=>obtain⟨x,t,rfl,_⟩:=r;simp
theorem zTn(ha:AbS K J S H)(r:Rep K J H d v)(h:DS.truth S d=some k):TruV K v H k:=by
 cases d with
 | non=>obtain rfl:=r;cases h;exact rfl
 | bl b=>obtain rfl:=r;cases h;exact rfl
 | int i=>
  obtain rfl:=r;have h:=xB h;subst h;show decide (i≠0)=(i != 0);by_cases z:i=0 <;> simp[z]
 | str x=>
  obtain rfl:=r;have h:(if x.length<=DS.most then some (decide (x.length≠0))else none)=some k:=h;by_cases z:x.length<=DS.most
  ·rw[xc z]at h;have h:=xB h;subst h;refine⟨z,?_⟩;by_cases z:x.length=0 <;> simp[z]
  ·rw[xf z]at h;cases h
 | tup ds=>obtain⟨a,xs,rfl,t,rl⟩:=r;cases h;exact .inr (.inl ⟨xs,t.sq,zBw rl⟩)
 | ktup ds=>obtain⟨a,xs,rfl,t,rl⟩:=r;cases h;exact .inr (.inl ⟨xs,t.sq,zBw rl⟩)
 | klst ds=>obtain⟨a,xs,rfl,t,rl⟩:=r;cases h;exact .inl ⟨xs,t.sq,zBw rl⟩
 | lst ds=>obtain⟨a,xs,rfl,t,rl⟩:=r;cases h;exact .inl ⟨xs,t.sq,zBw rl⟩
 | ref n=>
  obtain⟨a,ea,rfl⟩:=r;obtain⟨c,ec,o,eo,rc⟩:=ha.at ea;have el:DS.look S (.ref n)=some c:=ec;unfold DS.truth at h;rw[el]at h;cases c with
  | lst ds=>cases h;obtain⟨xs,rfl,rl⟩:=rc;exact .inl ⟨xs,.inl (.inl eo),zBw rl⟩
  | dct _ ks vs=>cases h
  | _=>exact False.elim rc
 | _=>cases h
theorem yA5(ha:DE X K E e m)(h:ntt e=true:=by rfl)(hK:X.K=K:=by rfl):DT X K E e (DS.tTru m):=by
 subst hK;exact⟨(qtruth' ha.h h).imp λσ H Q ⟨env,S,J,ha,he,q⟩=>⟨env,S,J,ha,he,q.bind.imp λd S1 J1 H1 _ a1 g1 q1 x rx=>by
  obtain⟨k,e,z⟩:=q1.lift;exact⟨k,zTn a1 rx e,z J1 H1 a1 .refl⟩⟩⟩
theorem RepE.set{env:DS.Env}{σ:St}{i:Nat}(h:RepE K J H env σ)(r:Rep K J H d v):RepE K J H (env.set i (some d)) (σ.set i (some v)):=by
 refine⟨by simp[h.len],λj d' e=>?_⟩;by_cases hj:i=j
 ·subst hj;have hi:i<env.length:=by
   have:=(xC.mp e).1;simpa using this
  rw[vI hi]at e;cases e;exact⟨v,vI (by rw[<- h.len];exact hi),r⟩
 ·rw[vJ hj]at e;rw[vJ hj];exact h.get j d' e
theorem zWr(hN:X.N.Nodup)(hi:X.N[j]?=some x)(hx:Loc X.env.scope x)(hf:X.fn x=true\/X.env.scope.names.lookup x=some .local:=by first|exact .inl rfl|exact .inr rfl|assumption):DG X K (.Name x pos) (DS.gName j):=
 ⟨(zQp hN hi hx hf).imp λv σ H Q hq3=>by
  obtain⟨env,S,J,d,env',ha,he,r,e,k⟩:=hq3;cases e;exact k _ (he.set r)⟩
theorem zWq:DGs X K [] []:=⟨pgs_nil'.imp λv σ H Q hq4=>by
 obtain⟨env,S,J,ds,env',ha,he,r,e,k⟩:=hq4;cases ds with
 | nil=>cases e;cases r;exact⟨rfl,k _ he⟩
 | cons d ds=>cases e⟩
theorem zRx(h1:DG X K tg g)(h2:DGs X K ts gs)(h:nst tg=true:=by rfl):DGs X K (tg::ts) (g::gs):=⟨(qgs' h1.h h2.h h).imp λv σ H Q hq5=>by
 obtain⟨env,S,J,ds,env',ha,he,r,e,k⟩:=hq5;cases ds with
 | nil=>cases e
 | cons d ds=>
  obtain⟨x,xs,rfl,rx,rl⟩:=r;unfold DS.gAll at e;cases e1:g S d env with
  | none=>rw[e1]at e;cases e
  | some env1=>
   rw[e1]at e;exact⟨x,xs,rfl,env,S,J,d,env1,ha,he,rx,e1,λσ' he'=>⟨env1,S,J,ds,env',ha,he',rl,e,k⟩⟩⟩
theorem zD2:∀{gs:List DS.GM}{S:Store}{ds:List D}{env env':DS.Env},DS.gAll gs S ds env=some env'->ds.length=gs.length
 | [],_,[],_,_,_=>rfl
 | [],_,_::_,_,_,e=>by cases e
 | _::_,_,[],_,_,e=>by cases e
 | g::gs,S,d::ds,env,env',e=>by
  unfold DS.gAll at e;cases e1:g S d env with
  | none=>rw[e1]at e;cases e
  | some env1=>rw[e1]at e;simp[zD2 e]
theorem SG.or{t u:TG}(h:SG X e t)(h':SG X e u):SG X e (λv σ H Q=>t v σ H Q\/u v σ H Q):=⟨λpins s σ H v w Q I r q=>by
 rcases q with q|q
 ·exact h.h pins s σ H v w Q I r q
 ·exact h'.h pins s σ H v w Q I r q⟩
theorem yAc{ts:List Expr}{gs:List DS.GM}(hc:X.calm=true)(h:DGs X K ts gs)(hn:ts.length=gs.length:=by rfl)(h1:ts.all nst=true:=by rfl)(hK:X.K=K:=by rfl):DG X K (.Tuple ts k pos) (DS.gTup gs):=by
 subst hK;refine⟨((qtup' hc h.h hn h1).or (qunl' hc h.h hn h1)).imp λv σ H Q hq1=>?_⟩;obtain⟨env,S,J,d,env',ha,he,r,e,k⟩:=hq1;unfold DS.gTup DS.items DS.look at e;cases d with
 | tup ds=>obtain⟨a,xs,rfl,t,rl⟩:=r;exact .inl ⟨a,xs,rfl,t.sq,by rw[<- rl.length];exact zD2 e,env,S,J,ds,env',ha,he,rl,e,k⟩
 | klst ds=>obtain⟨a,xs,rfl,t,rl⟩:=r;exact .inr ⟨a,xs,rfl,t.sq,by rw[<- rl.length];exact zD2 e,env,S,J,ds,env',ha,he,rl,e,k⟩
 | ktup ds=>obtain⟨a,xs,rfl,t,rl⟩:=r;exact .inl ⟨a,xs,rfl,t.sq,by rw[<- rl.length];exact zD2 e,env,S,J,ds,env',ha,he,rl,e,k⟩
 | lst ds=>obtain⟨a,xs,rfl,t,rl⟩:=r;exact .inr ⟨a,xs,rfl,t.sq,by rw[<- rl.length];exact zD2 e,env,S,J,ds,env',ha,he,rl,e,k⟩
 | ref n=>
  obtain⟨a,ea,rfl⟩:=r;obtain⟨c,ec,o,eo,rc⟩:=ha.at ea;simp only[ec]at e;cases c with
  | lst ds=>obtain⟨xs,rfl,rl⟩:=rc;exact .inr ⟨a,xs,rfl,.inl (.inl eo),by rw[<- rl.length];exact zD2 e,env,S,J,ds,env',ha,he,rl,e,k⟩
  | dct _ ks vs=>cases e
  | _=>exact False.elim rc
 | _=>cases e
variable {st:Stmt}{sts:List Stmt}{ms mu' mv:DS.SM}
theorem zWm:DSs X K E [] DS.zAd:=⟨pss_nil'.imp λD σ H hz7=>by obtain⟨env,S,J,ha,he,q⟩:=hz7;exact q J H σ ha .refl he⟩
theorem zGj(h:DS1 X K E st ms):DSs X K E [st] ms:=⟨zJx h.h⟩
theorem zKa(h:DS1 X K E st ms)(k:DSs X K E sts mv):DSs X K E (st::sts) (DS.sSeq ms mv):=⟨(zMt h.h k.h).imp λD σ H ⟨env,S,J,ha,he,q⟩=>⟨env,S,J,ha,he,by
 unfold DS.sSeq at q;cases e:ms env S with
 | nx e1 S1=>rw[e]at q;exact λJ' H' σ' h1 g1 h2=>⟨e1,S1,J',h1,h2,PostS.grow g1 q⟩
 | _=>rw[e]at q;exact q⟩⟩
theorem zWi{j:Nat}{x:Str}{pos':Pos}(hN:X.N.Nodup)(hi:X.N[j]?=some x)(hx:Loc X.env.scope x)(he:DE X K E e m)(hf:X.fn x=true\/X.env.scope.names.lookup x=some .local:=by first|exact .inl rfl|exact .inr rfl|assumption)(h:nco e=true:=by rfl):
  DS1 X K E (.Assign [.Name x pos'] e pos) (DS.sSet j m):=⟨(qset' hN hi hx he.h hf h).imp λD σ H hz8=>by obtain⟨env,S,J,ha,he,q⟩:=hz8;exact ⟨env,S,J,ha,he,q.then.imp λd S1 J1 H1 _ a1 g1 q1 v rv=>q1 J1 H1 _ a1 .refl ((he.grow g1).set rv)⟩⟩
theorem zX9 :∀D σ H,tsOf K E (DS.sUnp g m) D σ H->tAsg (tOf K E m) (gOf K g) D σ H:=λD σ H ⟨env,S,J,ha,he,q⟩=>⟨env,S,J,ha,he,q.then.imp λd S1 J1 H1 _ a1 g1 q1 v rv=>by
 cases e1:g S1 d env with
 | none=>rw[e1]at q1;exact False.elim q1
 | some env'=>rw[e1]at q1;exact⟨env,S1,J1,d,env',a1,he.grow g1,rv,e1,λσ' he'=>q1 J1 H1 σ' a1 .refl he'⟩⟩
theorem zWh(he:DE X K E e m)(hg:DG X K (.Tuple ts k tp) g)(h1:ntu e=true:=by rfl):DS1 X K E (.Assign [.Tuple ts k tp] e pos) (DS.sUnp g m):=⟨(qasgt' he.h hg.h h1).imp zX9⟩
theorem zRv(he:DE X K E e m)(h:nco e=true:=by rfl):DS1 X K E (.Expr e pos) (DS.zAp m):=⟨(qexpr' he.h h).imp λD σ H hz9=>by obtain⟨env,S,J,ha,he,q⟩:=hz9;exact ⟨env,S,J,ha,he,q.then.imp λd S1 J1 H1 _ a1 g1 q1 v rv=>q1 J1 H1 σ a1 .refl (he.grow g1)⟩⟩
theorem zOc(he:DE X K E e m):DS1 X K E (.Return (some e) pos) (DS.sRet m):=⟨(zUg he.h).imp λD σ H hz0=>by obtain⟨env,S,J,ha,he,q⟩:=hz0;exact ⟨env,S,J,ha,he,q.then.imp λd S1 J1 H1 _ a1 g1 q1 v rv=>q1 J1 H1 v a1 .refl rv⟩⟩
theorem zT0{ba bb:List Stmt}(hc:DT X K E c mt)(ha:DSs X K E ba ms)(hb:DSs X K E bb mv):DS1 X K E (.If c ba bb pos) (DS.sIf mt ms mv):=⟨(zY5 hc.h ha.h hb.h).imp λD σ H ⟨env,S,J,ha,he,q⟩=>⟨env,S,J,ha,he,q.then.imp λk S1 J1 H1 _ a1 g1 q1=>by
 cases k with
 | true=>exact⟨env,S1,J1,a1,he.grow g1,q1⟩
 | false=>exact⟨env,S1,J1,a1,he.grow g1,q1⟩⟩⟩
theorem zOa{body:List Stmt}(hp:PassesOwn (model X.prog X.w) X.A X.env X.xe)(hc:DT X K E c mt)(hb:DSs X K E body ms):DS1 X K E (.While c body [] pos) (DS.zC2 mt ms):=⟨(zMu hp hc.h hb.h).imp λD σ H hq6=>by
 obtain⟨env,S,J,ha,he,q⟩:=hq6;unfold DS.zC2 at q;by_cases hx:∃n,DS.zAr mt ms n env S≠.bad
 ·rw[dif_pos hx]at q;generalize Classical.choose hx=n at q;refine⟨λn σ H=>∃env S J,AbS K J S H/\RepE K J H env σ/\PostS K E J H (DS.zAr mt ms n env S) D,⟨n,env,S,J,ha,he,q⟩,?_⟩;rintro m σ H ⟨env,S,J,ha,he,q⟩;cases m with
  | zero=>exact False.elim q
  | succ m=>
   refine⟨env,S,J,ha,he,(PostS.then (by unfold DS.zAr at q;exact q)).imp λk S1 J1 H1 _ a1 g1 q1=>?_⟩;cases k with
   | false=>exact q1 J1 H1 σ a1 .refl (he.grow g1)
   | true=>
    rw[xc rfl]at q1 ⊢;refine⟨λσ H=>∃env S J,AbS K J S H/\RepE K J H env σ/\PostS K E J H (DS.zAr mt ms m env S) D,λσ' H' w=>⟨m,uv m,w⟩,env,S1,J1,a1,he.grow g1,?_⟩;cases e:ms env S1 with
    | nx e1 S2=>rw[e]at q1;exact λJ' H' σ' h1 g2 h2=>⟨e1,S2,J',h1,h2,PostS.grow g2 q1⟩
    | ct e1 S2=>rw[e]at q1;exact λJ' H' σ' h1 g2 h2=>⟨e1,S2,J',h1,h2,PostS.grow g2 q1⟩
    | _=>rw[e]at q1;exact q1
 ·rw[dif_neg hx]at q;exact False.elim q⟩
theorem zKb{α:Type}{l:List α}{i:Nat}(h:i<l.length):l.drop i=l[i]::l.drop (i+1):=List.drop_eq_getElem_cons h
theorem zWl{tg iter:Expr}{body:List Stmt}{im:DS.IM}{g:DS.GM}(hp:PassesOwn (model X.prog X.w) X.A X.env X.xe)(hc:X.calm=true)(hi:DI X K E tg iter im)(hg:DG X K tg g)(hb:DSs X K E body ms)(h:nse iter=true:=by rfl):
  DS1 X K E (.For tg iter body [] pos) (DS.sFor im g ms):=⟨(qfor' hp hc hi.h hg.h hb.h h).imp λD σ H ⟨env,S,J,ha,he,q⟩=>⟨env,S,J,ha,he,q.then.imp λw S1 J1 H1 _ a1 g1 q1 I ok=>by
 refine⟨λi m σ H=>m+i=w.its.length/\∃env S J,AbS K J S H/\Grow J1 H1 J H/\RepE K J H env σ/\PostS K E J H (DS.forL w.gd g ms (w.its.drop i) env S) D,⟨w.its.length,rfl,env,S1,J1,a1,.refl,he.grow g1,q1⟩,?_⟩;rintro i m σ H ⟨hm,env,S,J,ha,gr,he,q⟩;by_cases hi:i<w.its.length
 ·rw[zKb hi]at q;unfold DS.forL at q;by_cases gd:DS.gOk S w.gd
  ·rw[xc gd]at q;refine .inr ⟨ok.go i H J S ha gr gd hi,λσ H=>(m-1)+(i+1)=w.its.length/\∃env S J,AbS K J S H/\Grow J1 H1 J H/\RepE K J H env σ/\PostS K E J H (DS.forL w.gd g ms (w.its.drop (i+1)) env S) D,λσ' H' wq=>⟨m-1,by nofun,wq⟩,λx H' y=>?_⟩;obtain⟨a2,g2,rx⟩:=ok.yld i H J S x H' ha gr gd y _ (xo hi);cases eg:g S w.its[i] env with
   | none=>rw[eg]at q;exact False.elim q
   | some env'=>
    rw[eg]at q;refine⟨env,S,J,w.its[i],env',a2,he.grow g2,rx,eg,λσ2 he2=>⟨env',S,J,a2,he2,?_⟩⟩;simp only at q;cases e:ms env' S with
    | nx e1 S2=>rw[e]at q;exact λJ' H' σ' h1 g3 h2=>⟨by nofun,e1,S2,J',h1,gr.trans (g2.trans g3),h2,PostS.grow (g2.trans g3) q⟩
    | ct e1 S2=>rw[e]at q;exact λJ' H' σ' h1 g3 h2=>⟨by nofun,e1,S2,J',h1,gr.trans (g2.trans g3),h2,PostS.grow (g2.trans g3) q⟩
    | bk e1 S2=>rw[e]at q;exact λJ' H' σ' h1 g3 h2=>q J' H' σ' h1 (g2.trans g3) h2
    | rt e1 S2=>rw[e]at q;exact λJ' H' σ' h1 g3 h2=>q J' H' σ' h1 (g2.trans g3) h2
    | ex e1 S2=>rw[e]at q;exact λJ' H' h1 g3=>q J' H' h1 (g2.trans g3)
    | bad=>rw[e]at q;exact q
  ·rw[xf gd]at q;exact False.elim q
 ·have e0:w.its.drop i=[]:=List.drop_eq_nil_of_le (by nofun);rw[e0]at q;unfold DS.forL at q;by_cases gd:DS.gOk S w.gd
  ·rw[xc gd]at q;exact .inl ⟨ok.stop i H J S ha gr gd (by nofun),q J H σ ha .refl he⟩
  ·rw[xf gd]at q;exact False.elim q⟩⟩
theorem zLr{own:List Str}{ix:List Nat}(he:RepE K J H env σ):RepE K J H (DS.compEnv own.length ix env) (zDb own ix σ):=by
 refine⟨by simp[DS.compEnv,zDb],λi d e=>?_⟩;unfold DS.compEnv at e;unfold zDb;by_cases hi:i<own.length
 ·rw[xN (by simpa using hi),List.getElem?_replicate,xc hi]at e;cases e
 ·rw[xM (by simpa using hi),xO]at e;rw[xM (by simpa using hi),xO];simp only[List.length_replicate,xp]at e ⊢;cases ej:ix[i-own.length]? with
  | none=>rw[ej]at e;cases e
  | some j=>
   rw[ej]at e;simp only[uy,Option.some.injEq]at e ⊢;cases en:env[j]? with
   | none=>rw[en]at e;cases e
   | some o=>
    rw[en]at e;obtain⟨v,ev,r⟩:=he.get j d (by rw[en];exact congrArg some e);exact⟨v,by rw[ev];rfl,r⟩
theorem zKe{own:List Str}{ix:List Nat}:∀σ H Q,tOfF K E (DS.zAv own.length ix im g mt m) σ H Q->zIb own ix (iOf K E im) (gOf K g) (ttOf K E mt) (tOf K E m) σ H Q:=by
 refine λσ H Q ⟨env,St,J,ha,hE,q⟩=>⟨env,St,J,ha,hE,q.bind.imp λw S1 J1 H1 _ a1 g1 q1 I ok=>?_⟩
 refine⟨λi k ys σ H=>k+i=w.its.length/\∃env S J ds,AbS K J S H/\Grow J1 H1 J H/\RepE K J H env σ/\RepL K J H ds ys/\Post K E J H (DS.zD9 w.gd g mt m ys.length (w.its.drop i) env S) (λvs S2 J2 H2=>∀p o,H2 p=none->ObD K J2 H2 (.lst (ds++vs)) o->Q (.ref p) (upd H2 p o)),
  ⟨w.its.length,rfl,_,S1,J1,[],a1,.refl,zLr (hE.grow g1),rfl,q1.bind.imp λvs S2 J2 H2 _ a2 g2 q2=>q2 J2 H2 a2 .refl⟩,?_⟩
 rintro i k ys σ H ⟨hk,env,S,J,ds,ha,gr,hE,rl,q⟩;by_cases hi:i<w.its.length
 ·rw[zKb hi]at q;unfold DS.zD9 at q;by_cases gd:DS.gOk S w.gd/\ys.length<DS.most
  ·rw[xc gd]at q;refine .inr ⟨ok.go i H J S ha gr gd.1 hi,gd.2,λys σ H=>(k-1)+(i+1)=w.its.length/\∃env S J ds,AbS K J S H/\Grow J1 H1 J H/\RepE K J H env σ/\RepL K J H ds ys/\Post K E J H (DS.zD9 w.gd g mt m ys.length (w.its.drop (i+1)) env S) (λvs S2 J2 H2=>∀p o,H2 p=none->ObD K J2 H2 (.lst (ds++vs)) o->Q (.ref p) (upd H2 p o)),
    λzs σ' H' wq=>⟨k-1,by nofun,wq⟩,λx H' y=>?_⟩
   obtain⟨a2,g2,rx⟩:=ok.yld i H J S x H' ha gr gd.1 y _ (xo hi);cases eg:g S w.its[i] env with
   | none=>rw[eg]at q;exact False.elim q
   | some env'=>
    rw[eg]at q;refine⟨env,S,J,w.its[i],env',a2,hE.grow g2,rx,eg,λσ2 he2=>⟨env',S,J,a2,he2,(Post.grow g2 q).bind.imp λb S3 J3 H3 _ a3 g3 q3=>?_⟩⟩;cases b with
    | false=>exact⟨by nofun,env',S3,J3,ds,a3,gr.trans (g2.trans g3),he2.grow g3,RepL.grow (g2.trans g3) _ _ rl,q3⟩
    | true=>
     rw[xc rfl]at q3 ⊢;refine⟨env',S3,J3,a3,he2.grow g3,q3.bind.imp λd4 S4 J4 H4 _ a4 g4 q4 v rv=>?_⟩;have g24:=g2.trans (g3.trans g4);refine⟨by nofun,env',S4,J4,ds++[d4],a4,gr.trans g24,he2.grow (g3.trans g4),(RepL.grow g24 _ _ rl).snoc rv,?_⟩;rw[show(ys++[v]).length=ys.length+1 by simp];refine q4.bind.imp λvs S5 J5 H5 _ a5 g5 q5=>?_
     have:=q5 J5 H5 a5 .refl;rw[vW];exact this
  ·rw[xf gd]at q;exact False.elim q
 ·have e0:w.its.drop i=[]:=List.drop_eq_nil_of_le (by nofun);rw[e0]at q;unfold DS.zD9 at q;by_cases gd:DS.gOk S w.gd
  ·rw[xc gd]at q;have q2:∀(p:Addr) (o:HO),H p=none->ObD K J H (.lst (ds++[])) o->Q (.ref p) (upd H p o):=q J H ha .refl
   rw[xY]at q2;exact .inl ⟨ok.stop i H J S ha gr gd (by nofun),λp n=>q2 p (.lst ys) n ⟨ys,rfl,rl⟩⟩
  ·rw[xf gd]at q;exact False.elim q
theorem zVf:∀σ H Q,tOf K E (DS.eNew m) σ H Q->tOfF K E m σ H Q:=λσ H Q ⟨env,S,J,ha,he,q⟩=>⟨env,S,J,ha,he,q.bind.map λd S' J' H' _ h1 g k p o n r=>
 k J' H' h1 g (J'++[p]) (upd H' p o) (h1.name n r) (.name n) (.ref p) ⟨p,by rw[<- h1.len,xM (xh _)];simp,rfl⟩⟩
theorem zTy :∀D σ H,tsOf K E (DS.sSet j m) D σ H->tOf K E m σ H (λx H1=>gName j x σ H1 D.nx):=λD σ H hz1=>by obtain⟨env,S,J,ha,he,q⟩:=hz1;exact ⟨env,S,J,ha,he,q.then.imp λd S1 J1 H1 _ a1 g1 q1 v rv=>q1 J1 H1 _ a1 .refl ((he.grow g1).set rv)⟩
theorem zWs{ix:List Nat}{n:Nat}{elt:Expr}{ifs:List Expr}{g:DS.GM}(hc:X.calm=true)(S:CompScope X own fre ix scope)(hi:DI X K E tg iter im)
  (hg:∀cl C s H fp,DG (zAf X (own++fre) scope cl C s H fp) K tg g) (ht:∀cl C s H fp,DIf (zAf X (own++fre) scope cl C s H fp) K E ifs mt) (he:∀cl C s H fp,DE (zAf X (own++fre) scope cl C s H fp) K E elt m)
  (hn:own.length=n:=by rfl) (h:nse iter=true:=by rfl):DF X K E (.ListComp elt [⟨tg,iter,ifs,0⟩] scope pos) (DS.zAv n ix im g mt m):=by
 subst hn;exact⟨(qlcomp' hc S hi.h (λ_ _ _ _ _=>(hg _ _ _ _ _).h) (λ_ _ _ _ _=>(ht _ _ _ _ _).h) (λ_ _ _ _ _=>(he _ _ _ _ _).h) h).imp zKe⟩
theorem zOb{own fre:List Str}{ix:List Nat}{n:Nat}{scope:Scope}{j:Nat}{cpos pos':Pos}{tg elt iter:Expr}{ifs:List Expr}{im:DS.IM}{g:DS.GM}(hN:X.N.Nodup)(hix:X.N[j]?=some x)(hx:Loc X.env.scope x)
  (hc:X.calm=true) (S:CompScope X own fre ix scope) (hi:DI X K E tg iter im)
  (hg:∀cl C s H fp,DG (zAf X (own++fre) scope cl C s H fp) K tg g) (ht:∀cl C s H fp,DIf (zAf X (own++fre) scope cl C s H fp) K E ifs mt) (he:∀cl C s H fp,DE (zAf X (own++fre) scope cl C s H fp) K E elt m)
  (hsw:swapsWith (.ListComp elt [⟨tg,iter,ifs,0⟩] scope cpos) (some (.Name x pos')) pos.line X.env=pure true:=by rfl) (h:nse iter=true:=by rfl) (hf:X.fn x=true\/X.env.scope.names.lookup x=some .local:=by first|exact .inl rfl|exact .inr rfl|assumption) (hn:own.length=n:=by rfl):
  DS1 X K E (.Assign [.Name x pos'] (.ListComp elt [⟨tg,iter,ifs,0⟩] scope cpos) pos) (DS.sSet j (DS.eNew (DS.zAv n ix im g mt m))):=by
 subst hn;exact⟨(qsetc' hN hix hx hc S hi.h (λ_ _ _ _ _=>(hg _ _ _ _ _).h) (λ_ _ _ _ _=>(ht _ _ _ _ _).h) (λ_ _ _ _ _=>(he _ _ _ _ _).h) hsw h hf).imp λD σ H h=>zKe σ H _ (zVf σ H _ (zTy D σ H h))⟩
end
section
variable {P:Program}{w:World}{K:PySem.W.Frag}{mg:Str->Option Value}{base:Heap}
theorem zHp{np:Nat}{ds:List D}{P:D->Store->Js->Hp->Prop}(h:Post K E J H (DS.zAg np nl b ds S) P):ds.length=np:=by
 unfold DS.zAg at h;by_cases e:ds.length=np
 ·exact e
 ·rw[xf e]at h;exact False.elim h
theorem zG0{ds:List D}{N:List Str}(r:RepL K J H ds vs):RepE K J H (ds.map some++List.replicate (N.length-ds.length) none) (start N vs):=by
 refine⟨by simp[start,r.length],λi d e=>?_⟩;unfold start;by_cases hi:i<ds.length
 ·rw[xN (by simpa using hi),xO]at e;rw[xN (by simpa[<- r.length]using hi),xO];cases ed:ds[i]? with
  | none=>rw[ed]at e;cases e
  | some d'=>
   rw[ed]at e;cases e;obtain⟨x,ex,rx⟩:=r.get ed;exact⟨x,by rw[ex];rfl,rx⟩
 ·rw[xM (by simpa using hi),List.getElem?_replicate]at e;split at e <;> cases e
theorem zWy{np:Nat}{N:List Str}{b:DS.SM}{Q:VK}(ha:AbS K J S H)(r:RepL K J H ds vs)
  (h:Post K XE0 J H (DS.zAg np N.length b ds S) (λd _ J' H'=>∀v,Rep K J' H' d v->Q v H')):tsOf K XE0 b { nx:=λ_ H'=>Q .non H',rt:=Q } (start N vs) H:=by
 have hl:=zHp h;unfold DS.zAg at h;rw[xc hl,<- hl]at h;refine⟨_,S,J,ha,zG0 r,?_⟩;have fin:∀d S' J' H' v,AbS K J' S' H'->Grow J H J' H'->Rep K J' H' d v->Post K XE0 J H (DS.fin S d S') (λd _ J' H'=>∀v,Rep K J' H' d v->Q v H')->Q v H':=λd S' J' H' v a1 g1 r1 q=>by
  cases e:DS.fin S d S' with
  | ok d2 S2=>
   obtain⟨J2,a2,g2,r2⟩:=zSx ha g1 a1 r1 e;rw[e]at q;exact q J2 H' a2 g2 v r2
  | ex x S2=>rw[e]at q;exact False.elim (q J' H' (by
    exfalso;unfold DS.fin at e;split at e <;> try cases e
    split at e <;> try cases e
    split at e <;> try cases e
    split at e <;> try cases e
    split at e <;> cases e) g1)
  | bad=>rw[e]at q;exact False.elim q
 cases e:b (ds.map some++List.replicate (N.length-ds.length) none) S with
 | nx e1 S1=>rw[e]at h;exact λJ' H' σ h1 g1 _=>fin .non S1 J' H' .non h1 g1 rfl h
 | rt d S1=>rw[e]at h;exact λJ' H' v h1 g1 r1=>fin d S1 J' H' v h1 g1 r1 h
 | bk e1 S1=>rw[e]at h;exact False.elim h
 | ct e1 S1=>rw[e]at h;exact False.elim h
 | ex x S1=>rw[e]at h;exact h
 | bad=>rw[e]at h;exact False.elim h
theorem fn_d{k:Nat}{x qual:Str}{st:Stmt}{f:Addr}{fd:FuncData}{N ps:List Str}{np nl:Nat}{b:DS.SM}(F:Fun K x qual st f fd)(Sc:zCz N ps (zA6 st))(hnp:ps.length=np)(hnl:N.length=nl)
  (hb:∀(cdv:Value) (A:Around) (outer:List PySem.Env) (s:Shared) (H:Hp) (E:XK),Room k (A.deeper (envOfC qual (zA6 st) s.heap.objs.size f cdv))->DSs (cxOf CX0 P w K mg base N qual (zA6 st) f cdv A outer s H E).nox K XE0 (zAu st) b):
  FnOk P w K mg base CX0 (k+1) f fd ps (spOf K XE0 (DS.zAg np nl b)):=by
 subst hnp hnl;refine F.ok Sc (λvs H Q E h=>?_) (λcdv A outer s H vs Q E hr h=>?_)
 ·obtain⟨J,S,ds,ha,r,q⟩:=h;rw[<- r.length];exact zHp q
 ·obtain⟨J,S,ds,ha,r,q⟩:=h;exact⟨_,(hb cdv A outer s H E hr).h.h,zWy ha r q⟩
theorem zS4{np:Nat}{N:List Str}{b:DS.SM}{ds:List D}{Q:VK}(hl:ds.length=np)(ha:AbS K J S H)(r:RepL K J H ds vs)
  (h:Post K XE0 J H (DS.zGo np N.length b ds S) (λd _ J' H'=>∀v,Rep K J' H' d v->Q v H')):tsOf K XE0 b { nx:=λ_ H'=>Q .non H',rt:=Q } (start N vs) H:=by
 unfold DS.zGo at h;rw[xc hl,<- hl]at h;refine⟨_,S,J,ha,zG0 r,?_⟩;cases e:b (ds.map some++List.replicate (N.length-ds.length) none) S with
 | nx e1 S1=>rw[e]at h;exact λJ' H' σ h1 g1 _=>h J' H' h1 g1 .non rfl
 | rt d S1=>rw[e]at h;exact λJ' H' v h1 g1 r1=>h J' H' h1 g1 v r1
 | bk e1 S1=>rw[e]at h;exact False.elim h
 | ct e1 S1=>rw[e]at h;exact False.elim h
 | ex x S1=>rw[e]at h;exact h
 | bad=>rw[e]at h;exact False.elim h
theorem fn_r{k:Nat}{x qual:Str}{st:Stmt}{f:Addr}{fd:FuncData}{N ps:List Str}{np nl:Nat}{b:DS.SM}(F:Fun K x qual st f fd)(Sc:zCz N ps (zA6 st))(hnp:ps.length=np)(hnl:N.length=nl)
  (hb:∀(cdv:Value) (A:Around) (outer:List PySem.Env) (s:Shared) (H:Hp) (E:XK),Room k (A.deeper (envOfC qual (zA6 st) s.heap.objs.size f cdv))->DSs (cxOf CX0 P w K mg base N qual (zA6 st) f cdv A outer s H E).nox K XE0 (zAu st) b):
  FnOk P w K mg base CX0 (k+1) f fd ps (spOf K XE0 (DS.zGo np nl b)):=by
 subst hnp hnl;have cl:∀{J:Js}{H:Hp}{ds:List D}{S:Store}{P:D->Store->Js->Hp->Prop},Post K XE0 J H (DS.zGo ps.length N.length b ds S) P->ds.length=ps.length:=λ{J H ds S P} h=>by
  unfold DS.zGo at h;by_cases e:ds.length=ps.length
  ·exact e
  ·rw[xf e]at h;exact False.elim h
 refine F.ok Sc (λvs H Q E h=>?_) (λcdv A outer s H vs Q E hr h=>?_)
 ·obtain⟨J,S,ds,ha,r,q⟩:=h;rw[<- r.length];exact cl q
 ·obtain⟨J,S,ds,ha,r,q⟩:=h;exact⟨_,(hb cdv A outer s H E hr).h.h,zS4 (cl q) ha r q⟩
end
end L2
namespace DS
open PySem (Str)
section
open Classical
noncomputable def big:Nat:=2 ^ 5000
def sm(x:Int):Prop:=x.natAbs<big
theorem zTu{x:Int}(h1:-(2 ^ 200)<x)(h2:x<2 ^ 200):sm x:=by
 have h:(2:Nat) ^ 200<=big:=Nat.pow_le_pow_right (by decide) (by decide);have e:((2 ^ 200:Nat):Int)=2 ^ 200:=by norm_cast
 unfold sm
 omega
noncomputable def addD (S:Store) (x y:D):Option D:=match x,y with
 | .int a,.int b=>some (.int (a+b))
 | .str a,.str b=>if a.length+b.length<=most then some (.str (a++b))else none
 | .tup l,.tup m=>if l≠[]/\l.length+m.length<=most then some (.tup (l++m))else none
 | x,y=>match litems S x,litems S y with
  | some l,some m=>if l.length+m.length<=most then some (.lst (l++m))else none
  | _,_=>none
noncomputable def catD (S:Store) (x y:D):Option D:=match litems S x,litems S y with
 | some l,some m=>if l.length+m.length<=most then some (.lst (l++m))else none
 | _,_=>none
noncomputable def subD (_:Store) (x y:D):Option D:=match x,y with
 | .int a,.int b=>some (.int (a-b))
 | _,_=>none
noncomputable def mulD (S:Store) (x y:D):Option D:=match x,y with
 | .int a,.int b=>if sm a/\sm b then some (.int (a*b))else none
 | _,_=>none
noncomputable def zGi (_:Store) (x y:D):Option D:=match x,y with
 | .int a,.int b=>if b≠0/\sm b then some (.int (a.fdiv b))else none
 | _,_=>none
noncomputable def modD (_:Store) (x y:D):Option D:=match x,y with
 | .int a,.int b=>if 0<b then some (.int (a % b))else none
 | _,_=>none
noncomputable def powD (_:Store) (x y:D):Option D:=match x,y with
 | .int a,.int b=>if 0<=b/\b<=1000000/\a.natAbs<2 ^ 64 then some (.int (a ^ b.toNat))else none
 | _,_=>none
noncomputable def negD (_:Store) (x:D):Option D:=match x with
 | .int a=>some (.int (-a))
 | _=>none
def okL(l m:List D):Prop:=zCm l=true/\zCm m=true/\cmpL l m=true/\depL l<=60
noncomputable def eqO (S:Store) (x y:D):Option Bool:=match look S x,look S y with
 | some (.int a),some (.int b)=>some (decide (a=b))
 | some (.bl a),some (.bl b)=>some (decide (a=b))
 | some (.str a),some (.str b)=>some (decide (a=b))
 | some (.tup l),some (.tup m)=>if okL l m then some (decide (l=m))else none
 | some (.lst l),some (.lst m)=>if okL l m then some (decide (l=m))else none
 | _,_=>none
noncomputable def eqD (S:Store) (x y:D):Option D:=(eqO S x y).map D.bl
noncomputable def iLt (p:Int->Int->Bool) (q:List Nat->List Nat->Bool) (x y:D):Option D:=match x,y with
 | .int a,.int b=>some (.bl (p a b))
 | .str a,.str b=>some (.bl (q a.cps.toList b.cps.toList))
 | _,_=>none
noncomputable def leD (_:Store) (x y:D):Option D:=iLt (λa b=>decide (a<=b)) (λa b=>!decide (b<a)) x y
noncomputable def gtD (_:Store) (x y:D):Option D:=match x,y with
 | .int a,.int b=>some (.bl (decide (b<a)))
 | _,_=>none
noncomputable def geD (_:Store) (x y:D):Option D:=match x,y with
 | .int a,.int b=>some (.bl (decide (b<=a)))
 | _,_=>none
noncomputable def isN:D->Bool
 | .non=>true
 | _=>false
noncomputable def isD (_:Store) (x y:D):Option D:=match y with
 | .non=>some (.bl (isN x))
 | _=>none
noncomputable def ixN (n:Nat) (i:Int):Option Nat:=if 0<=i then(if i<n then some i.toNat else none)else if -(n:Int)<=i then some (i+n).toNat else none
noncomputable def atL {α:Type}(xs:List α) (i:Int):Option α:=(ixN xs.length i).bind λj=>xs[j]?
noncomputable def look2 (ks vs:List D) (k:D):Option D:=match ks,vs with
 | a::r,v::t=>if a=k then some v else look2 r t k
 | _,_=>none
noncomputable def isKey:D->Bool
 | .int _=>true
 | .str _=>true
 | .tup l=>l.all λd=>match d with
  | .int _=>true
  | .str _=>true
  | _=>false
 | _=>false
noncomputable def zFk (t:Bool) (k:D):Bool:=isKey k && (match k with
 | .tup _=>t
 | _=>!t)
noncomputable def ixD (S:Store) (x y:D):Option D:=match look S x,y with
 | some (.tup l),.int i=>atL l i
 | some (.lst l),.int i=>atL l i
 | some (.str z),.int i=>if z.length<=most then(atL z.cps.toList i).map λc=>.str ⟨#[c]⟩else none
 | some (.dct t ks vs),k=>if zFk t k=true then look2 ks vs k else none
 | _,_=>none
noncomputable def sIx (n d:Nat):Option Int->Nat
 | none=>d
 | some v=>if v<0 then(v+(n:Int)).toNat else min v.toNat n
noncomputable def cutL {α:Type}(xs:List α) (lo hi:Option Int):List α:=(xs.drop (sIx xs.length 0 lo)).take (sIx xs.length xs.length hi-sIx xs.length 0 lo)
noncomputable def slD (S:Store) (x:D) (lo hi:Option Int):Option D:=match x with
 | .tup l=>some (.tup (cutL l lo hi))
 | .ktup l=>if sIx l.length 0 lo=0/\sIx l.length l.length hi=l.length then some (.ktup l)else some (.tup (cutL l lo hi))
 | x=>match look S x with
  | some (.lst l)=>some (.lst (cutL l lo hi))
  | _=>none
def okIn(x:D)(l:List D):Prop:=x.flat=true/\zCm l=true/\depL l<=60/\∀d∈l,d.cmp x=true
noncomputable def inO (S:Store) (x y:D):Option Bool:=match look S y with
 | some (.tup l)=>if okIn x l then some (decide (x∈l))else none
 | some (.lst l)=>if okIn x l then some (decide (x∈l))else none
 | some (.dct t ks _)=>if zFk t x=true then some (decide (x∈ks))else none
 | _=>none
noncomputable def inD (S:Store) (x y:D):Option D:=(inO S x y).map D.bl
noncomputable def zDj (S:Store) (x y:D):Option D:=(inO S x y).map λb=>.bl (!b)
noncomputable def revL (S:Store) (x:D):Option D:=match look S x with
 | some (.lst l)=>some (.lst l.reverse)
 | _=>none
noncomputable def repl2:List D->List D->D->D->List D
 | a::r,w::t,k,v=>(if a=k then v else w)::repl2 r t k v
 | _,_,_,_=>[]
noncomputable def put2 (ks vs:List D) (k v:D):List D × List D:=if k∈ks then(ks,repl2 ks vs k v)else(ks++[k],vs++[v])
noncomputable def putD (S:Store) (o k v:D):Option Store:=match o with
 | .ref n=>match S[n]? with
  | some (.lst l)=>(match k with
   | .int i=>(ixN l.length i).map λj=>S.set n (.lst (l.set j v))
   | _=>none)
  | some (.dct t ks vs)=>if zFk t k=true/\ks.length<most then some (S.set n (.dct t (put2 ks vs k v).1 (put2 ks vs k v).2))else none
  | _=>none
 | _=>none
noncomputable def lenB (S:Store):List D->Option D
 | [d]=>match look S d with
  | some (.tup l)=>some (.int l.length)
  | some (.lst l)=>some (.int l.length)
  | some (.dct _ ks _)=>some (.int ks.length)
  | some (.str x)=>if x.length<=most then some (.int x.length)else none
  | _=>none
 | _=>none
noncomputable def zCn (S:Store):List D->Option D
 | [d]=>match d with
  | .tup l=>some (.tup l)
  | .ktup l=>some (.ktup l)
  | d=>(litems S d).map D.tup
 | _=>none
noncomputable def bools:List D->Option (List Bool)
 | []=>some []
 | .bl b::r=>(bools r).map (b::·)
 | _=>none
noncomputable def allB (S:Store):List D->Option D
 | [d]=>((litems S d).bind bools).map λbs=>.bl (bs.all id)
 | _=>none
noncomputable def max2B (_:Store):List D->Option D
 | [.int i,.int j]=>some (.int (if j > i then j else i))
 | _=>none
noncomputable def min2B (_:Store):List D->Option D
 | [.int i,.int j]=>some (.int (if j<i then j else i))
 | _=>none
noncomputable def absB (_:Store):List D->Option D
 | [.int i]=>some (.int (if i<0 then -i else i))
 | _=>none
noncomputable def kinds:List String:=["int","bool","str","tuple","list","NoneType"]
noncomputable def zZk (U T:String):Bool:=U == T || (U == "bool" && T == "int")
noncomputable def isiB (S:Store):List D->Option D
 | [d,.ty T]=>match d with
  | .ktup _=>none
  | .klst _=>none
  | d=>match tyD S d with
   | some U=>if U∈kinds/\T∈kinds then some (.bl (zZk U T))else none
   | none=>none
 | _=>none
noncomputable def zAi (S:Store) (o:D) (xs:List D):Option (D × Store):=match o,xs with
 | .ref n,[v]=>match S[n]? with
  | some (.lst l)=>if l.length<most then some (.non,S.set n (.lst (l++[v])))else none
  | _=>none
 | _,_=>none
noncomputable def popM (S:Store) (o:D) (xs:List D):Option (D × Store):=match o,xs with
 | .ref n,[]=>match S[n]? with
  | some (.lst l)=>(l[l.length-1]?).map λv=>(v,S.set n (.lst l.dropLast))
  | _=>none
 | _,_=>none
noncomputable def zB8 (S:Store) (o:D) (xs:List D):Option (D × Store):=match o,xs with
 | .ref n,[d]=>if d=.ref n then none else match S[n]?,litems S d with
  | some (.lst l),some m=>if l.length+m.length<=most then some (.non,S.set n (.lst (l++m)))else none
  | _,_=>none
 | _,_=>none
end
end DS
namespace L2
open PySem PySem.Spec PyProof.Rows
open DS (D Store Exn Rs SR)
section
variable {X:Cx}{K:PySem.W.Frag}{E:XE}{J:Js}{S:Store}{H:Hp}{d d1 d2:D}{v:V}
theorem Inv.lstR{s:Shared}{xs:List V}(I:Inv X pins σ H s)(hH:Rd H l (.lst xs)):xs.length<=sizeLine/\∃(its:List Value) (n:Nat),Vals xs its/\xs.length=its.length/\s.heap.get? l=some { cls:=.type "list",data:=.seq its.toArray n }:=by obtain⟨z,its,n,r,e⟩:=hH.ok I.hok;exact⟨z,its,n,r,r.length,e⟩
theorem zCs(ha:AbS K J S H)(r:Rep K J H d v)(e:DS.litems S d=some l):∃a xs,v=.ref a/\Rd H a (.lst xs)/\RepL K J H l xs:=by
 cases d with
 | lst ds=>cases e;obtain⟨a,xs,rfl,t,rl⟩:=r;exact⟨a,xs,rfl,.inl t.1,rl⟩
 | ref n=>
  obtain⟨a,ea,rfl⟩:=r;obtain⟨c,ec,o,eo,rc⟩:=ha.at ea;unfold DS.litems DS.look at e;simp only[ec]at e;cases c with
  | lst ds=>cases e;obtain⟨xs,rfl,rl⟩:=rc;exact⟨a,xs,rfl,.inl eo,rl⟩
  | dct _ ks vs=>cases e
  | _=>exact False.elim rc
 | _=>cases e
theorem zGf(ha:AbS K J S H)(r:Rep K J H d v)(e:DS.items S d=some l):∃a xs,v=.ref a/\(SqL K H a xs\/SqT K H a xs)/\RepL K J H l xs:=by
 cases d with
 | tup ds=>cases e;obtain⟨a,xs,rfl,t,rl⟩:=r;exact⟨a,xs,rfl,.inr t.sq,rl⟩
 | ktup ds=>cases e;obtain⟨a,xs,rfl,t,rl⟩:=r;exact⟨a,xs,rfl,.inr t.sq,rl⟩
 | klst ds=>cases e;obtain⟨a,xs,rfl,t,rl⟩:=r;exact⟨a,xs,rfl,.inl t.sq,rl⟩
 | lst ds=>cases e;obtain⟨a,xs,rfl,t,rl⟩:=r;exact⟨a,xs,rfl,.inl t.sq,rl⟩
 | ref n=>
  obtain⟨a,ea,rfl⟩:=r;obtain⟨c,ec,o,eo,rc⟩:=ha.at ea;unfold DS.items DS.look at e;simp only[ec]at e;cases c with
  | lst ds=>cases e;obtain⟨xs,rfl,rl⟩:=rc;exact⟨a,xs,rfl,.inl (.inl (.inl eo)),rl⟩
  | dct _ ks vs=>cases e
  | _=>exact False.elim rc
 | _=>cases e
theorem zUz:OpR X (binaryOp .Sub) (r2Of K DS.subD):=by
 intro pins s σ H x y v u Q I rx ry hq7;obtain⟨J,S,d1,d2,d,ha,r1,r2,e,k⟩:=hq7;unfold DS.subD at e;split at e
 ·cases e;obtain rfl:=r1;obtain rfl:=r2;exact zYt pins s σ H _ _ v u Q I rx ry ⟨_,_,rfl,rfl,k _ H ha .refl rfl⟩
 ·cases e
theorem zIg:OpR X (binaryOp .Mult) (r2Of K DS.mulD):=by
 intro pins s σ H x y v u Q I rx ry hq8;obtain⟨J,S,d1,d2,d,ha,r1,r2,e,k⟩:=hq8;unfold DS.mulD at e;split at e
 ·split at e
  ·rename_i h;cases e;obtain rfl:=r1;obtain rfl:=r2;exact zV5 pins s σ H _ _ v u Q I rx ry ⟨_,_,rfl,rfl,h,k _ H ha .refl rfl⟩
  ·cases e
 ·cases e
theorem zR0:OpR X (binaryOp .FloorDiv) (r2Of K DS.zGi):=by
 intro pins s σ H x y v u Q I rx ry hq9;obtain⟨J,S,d1,d2,d,ha,r1,r2,e,k⟩:=hq9;unfold DS.zGi at e;split at e
 ·split at e
  ·rename_i h;cases e;obtain rfl:=r1;obtain rfl:=r2;exact zQz pins s σ H _ _ v u Q I rx ry ⟨_,_,rfl,rfl,h,k _ H ha .refl rfl⟩
  ·cases e
 ·cases e
theorem zV6:OpR X (binaryOp .Mod) (r2Of K DS.modD):=by
 intro pins s σ H x y v u Q I rx ry hq10;obtain⟨J,S,d1,d2,d,ha,r1,r2,e,k⟩:=hq10;unfold DS.modD at e;split at e
 ·split at e
  ·rename_i h;cases e;obtain rfl:=r1;obtain rfl:=r2;exact zYv pins s σ H _ _ v u Q I rx ry ⟨_,_,rfl,rfl,h,k _ H ha .refl rfl⟩
  ·cases e
 ·cases e
theorem zV0:OpR X (binaryOp .Pow) (r2Of K DS.powD):=by
 intro pins s σ H x y v u Q I rx ry hq11;obtain⟨J,S,d1,d2,d,ha,r1,r2,e,k⟩:=hq11;unfold DS.powD at e;split at e
 ·split at e
  ·rename_i h;cases e;obtain rfl:=r1;obtain rfl:=r2;exact zYu pins s σ H _ _ v u Q I rx ry ⟨_,_,rfl,rfl,h,k _ H ha .refl rfl⟩
  ·cases e
 ·cases e
theorem zM7:UnR X (unaryOp .USub) (r1Of K DS.negD):=by
 intro pins s σ H x v Q I rx hq12;obtain⟨J,S,d1,d,ha,r1,e,k⟩:=hq12;unfold DS.negD at e;split at e
 ·cases e;obtain rfl:=r1;exact zXa pins s σ H _ v Q I rx ⟨_,rfl,k _ H ha .refl rfl⟩
 ·cases e
theorem zP1{xs ys:List V}{Q:VK}(I:Inv X pins σ H s)(h1:Rd H a (.lst xs))(h2:Rd H b (.lst ys))(hz:xs.length+ys.length<=sizeLine)(q:∀p,H p=none->Q (.ref p) (upd H p (.lst (xs++ys)))):
  wpAny (model X.prog X.w) X.A (binaryOp .Add (.ref a) (.ref b)) (EP X pins σ Q) X.xe s:=by
 obtain⟨z,its,n,r,hl,e⟩:=I.lstR h1;obtain⟨z2,its2,n2,r2,hl2,e2⟩:=I.lstR h2;refine PySem.P.add_list e e2 ?_ (by rw[xu,xu,<- hl,<- hl2];exact hz);rw[show its.toArray++its2.toArray=(its++its2).toArray by simp];exact⟨.ref _,_,I.lnew (r.append r2) (by rw[xk];exact hz),rfl,q _ I.fresh⟩
theorem zR1:OpR X (binaryOp .Add) (yBa K DS.catD):=by
 intro pins s σ H x y v u Q I rx ry hq13;obtain⟨J,S,d1,d2,d,ha,r1,r2,e,k⟩:=hq13;unfold DS.catD at e;split at e
 ·rename_i l m e1 e2;split at e
  ·rename_i h;cases e;obtain⟨a,xs,rfl,h1,q1⟩:=zCs ha r1 e1;obtain⟨b,ys,rfl,h2,q2⟩:=zCs ha r2 e2;cases rx;cases ry;exact zP1 I h1 h2 (by rw[<- q1.length,<- q2.length];exact h) λp n=>k p _ H ha .refl n ⟨_,rfl,q1.append q2⟩
  ·cases e
 ·cases e
theorem zVc(hK:X.K=K:=by rfl):OpR X (binaryOp .Add) (r2Of K DS.addD):=by
 subst hK;intro pins s σ H x y v u Q I rx ry hq14;obtain⟨J,S,d1,d2,d,ha,r1,r2,e,k⟩:=hq14;unfold DS.addD at e;split at e
 ·cases e;obtain rfl:=r1;obtain rfl:=r2;exact zZ1 pins s σ H _ _ v u Q I rx ry ⟨_,_,rfl,rfl,k _ H ha .refl rfl⟩
 ·split at e
  ·rename_i h;cases e;obtain rfl:=r1;obtain rfl:=r2;exact zL3 pins s σ H _ _ v u Q I rx ry ⟨_,_,rfl,rfl,h,k _ H ha .refl rfl⟩
  ·cases e
 ·split at e
  ·rename_i l m h;cases e;obtain⟨a,xs,rfl,t1,q1⟩:=r1;obtain⟨b,ys,rfl,t2,q2⟩:=r2;have e1:=q1.length;have e2:=q2.length;refine zVb pins s σ H _ _ v u Q I rx ry ⟨a,b,xs,ys,rfl,rfl,t1.sq,t2.sq,λz=>h.1 (by subst z;exact uP e1),by rw[<- e1,<- e2];exact h.2,λz=>?_,λz p n=>?_⟩
   ·subst z;obtain rfl:m=[]:=uP e2;rw[xY]at k;exact k _ H ha .refl ⟨a,xs,rfl,t1,q1⟩
   ·exact k _ _ (ha.push n) (.push n) ⟨p,_,rfl,⟨zAb,ha.out n⟩,RepL.grow (.push n) _ _ (q1.append q2)⟩
  ·cases e
 ·exact zR1 pins s σ H _ _ v u Q I rx ry ⟨J,S,d1,d2,d,ha,r1,r2,e,λp o H' a1 g1 n r=>k _ _ (a1.push n r.nt) (g1.trans (.push n)) (r.rep a1 n)⟩
mutual
def toDv:D->Dv
 | .non=>.non
 | .bl b=>.bl b
 | .int i=>.int i
 | .str x=>.str x
 | .tup l=>.tup (zD5 l)
 | .lst l=>.lst (zD5 l)
 | .dct _ _ _=>.non
 | .ktup _=>.non
 | .klst _=>.non
 | .st _=>.non
 | .ty _=>.non
 | .ref _=>.non
def zD5:List D->List Dv
 | []=>[]
 | d::r=>toDv d::zD5 r
end
mutual
theorem zD0:∀(d:D) (v:V),d.flat=true->Rep K J H d v->Den K H (toDv d) v
 | .non,_,_,r=>r
 | .bl _,_,_,r=>r
 | .int _,_,_,r=>r
 | .str _,_,_,r=>r
 | .tup l,v,f,⟨a,xs,e,t,rl⟩=>⟨a,xs,e,t.sq,zCc l xs f rl⟩
 | .lst l,v,f,⟨a,xs,e,t,rl⟩=>⟨a,xs,e,t.sq,zCc l xs f rl⟩
 | .dct _ _ _,_,f,_=>by cases f
 | .ktup _,_,f,_=>by cases f
 | .klst _,_,f,_=>by cases f
 | .st _,_,f,_=>by cases f
 | .ty _,_,f,_=>by cases f
 | .ref _,_,f,_=>by cases f
theorem zCc:∀(l:List D) (xs:List V),DS.zCm l=true->RepL K J H l xs->DenL K H (zD5 l) xs
 | [],_,_,r=>r
 | d::l,xs,f,⟨x,r,e,h,t⟩=>by
  have f:(d.flat && DS.zCm l)=true:=f;rw[xl]at f;exact⟨x,r,e,zD0 d x f.1 h,zCc l r f.2 t⟩
end
mutual
theorem zFv:∀(d e:D),d.flat=true->e.flat=true->toDv d=toDv e->d=e
 | .non,e,_,f,h=>by cases e <;> first|rfl|(exact Bool.noConfusion (show false=true from f))|(cases h;done)
 | .bl _,e,_,f,h=>by cases e <;> first|(cases h;rfl)|exact nomatch h|exact nomatch f
 | .int _,e,_,f,h=>by cases e <;> first|(cases h;rfl)|exact nomatch h|exact nomatch f
 | .str _,e,_,f,h=>by cases e <;> first|(cases h;rfl)|exact nomatch h|exact nomatch f
 | .tup l,e,f,f',h=>by
  cases e with
  | tup m=>exact congrArg D.tup (zDe l m f f' (Dv.tup.inj h))
  | _=>first|exact nomatch h|exact nomatch f'
 | .lst l,e,f,f',h=>by
  cases e with
  | lst m=>exact congrArg D.lst (zDe l m f f' (Dv.lst.inj h))
  | _=>first|exact nomatch h|exact nomatch f'
 | .dct _ _ _,_,f,_,_=>by cases f
 | .ktup _,_,f,_,_=>by cases f
 | .klst _,_,f,_,_=>by cases f
 | .st _,_,f,_,_=>by cases f
 | .ty _,_,f,_,_=>by cases f
 | .ref _,_,f,_,_=>by cases f
theorem zDe:∀(l m:List D),DS.zCm l=true->DS.zCm m=true->zD5 l=zD5 m->l=m
 | [],[],_,_,_=>rfl
 | [],_::_,_,_,h=>by cases h
 | _::_,[],_,_,h=>by cases h
 | d::l,e::m,f,f',h=>by
  have f:(d.flat && DS.zCm l)=true:=f;have f':(e.flat && DS.zCm m)=true:=f';rw[xl]at f f';have h:=ud (h);rw[zFv d e f.1 f'.1 h.1,zDe l m f.2 f'.2 h.2]
end
mutual
theorem zFw:∀(d e:D),d.cmp e=true->(toDv d).cmp (toDv e)=true
 | .non,e,h=>by cases e <;> first|rfl|cases h
 | .bl _,e,h=>by cases e <;> first|rfl|cases h
 | .int _,e,h=>by cases e <;> first|rfl|cases h
 | .str _,e,h=>by cases e <;> first|rfl|cases h
 | .tup l,e,h=>by
  cases e with
  | tup m=>exact zBv l m h
  | _=>cases h
 | .lst l,e,h=>by
  cases e with
  | lst m=>exact zBv l m h
  | _=>cases h
 | .dct _ _ _,e,h=>by cases e <;> cases h
 | .ktup _,e,h=>by cases e <;> cases h
 | .klst _,e,h=>by cases e <;> cases h
 | .st _,e,h=>by cases e <;> cases h
 | .ty _,e,h=>by cases e <;> cases h
 | .ref _,e,h=>by cases e <;> cases h
theorem zBv:∀(l m:List D),DS.cmpL l m=true->L2.cmpL (zD5 l) (zD5 m)=true
 | [],[],_=>rfl
 | [],_::_,_=>rfl
 | _::_,[],_=>rfl
 | d::l,e::m,h=>by
  have h:(d.cmp e && DS.cmpL l m)=true:=h;rw[xl]at h;show((toDv d).cmp (toDv e) && L2.cmpL (zD5 l) (zD5 m))=true;rw[zFw d e h.1,zBv l m h.2];rfl
end
mutual
theorem zJk:∀(d:D),(toDv d).dep<=d.dep
 | .tup l=>Nat.succ_le_succ (zCo l)
 | .lst l=>Nat.succ_le_succ (zCo l)
 | .non=>xh _
 | .bl _=>xh _
 | .int _=>xh _
 | .str _=>xh _
 | .dct _ _ _=>xh _
 | .ktup _=>xh _
 | .klst _=>xh _
 | .st _=>xh _
 | .ty _=>xh _
 | .ref _=>xh _
theorem zCo:∀(l:List D),L2.depL (zD5 l)<=DS.depL l
 | []=>xh _
 | d::l=>by
  show max (toDv d).dep (L2.depL (zD5 l))<=max d.dep (DS.depL l);have:=zJk d;have:=zCo l;lia
end
open Classical in
theorem zEc(f:DS.zCm l=true)(f':DS.zCm m=true):eqvL (zD5 l) (zD5 m)=decide (l=m):=by
 by_cases e:l=m
 ·subst e;rw[xj rfl];exact(zCi _ _).mpr rfl
 ·rw[xi e];cases q:eqvL (zD5 l) (zD5 m)with
  | false=>rfl
  | true=>exact absurd (zDe l m f f' ((zCi _ _).mp q)) e
theorem zEb{c:D}(ha:AbS K J S H)(r:Rep K J H d v)(e:DS.look S d=some c)(f:c.flat=true):Den K H (toDv c) v:=by
 cases d with
 | ref n=>
  obtain⟨a,ea,rfl⟩:=r;obtain⟨c',ec,o,eo,rc⟩:=ha.at ea;have e:S[n]?=some c:=e;rw[ec]at e;cases e;cases c with
  | lst ds=>obtain⟨xs,rfl,rl⟩:=rc;exact⟨a,xs,rfl,.inl (.inl eo),zCc _ _ f rl⟩
  | dct _ ks vs=>cases f
  | _=>exact False.elim rc
 | ktup l=>cases e;obtain⟨a,xs,rfl,t,rl⟩:=r;exact⟨a,xs,rfl,t.sq,zCc _ _ f rl⟩
 | klst l=>cases e;obtain⟨a,xs,rfl,t,rl⟩:=r;exact⟨a,xs,rfl,t.sq,zCc _ _ f rl⟩
 | _=>cases e;exact zD0 _ _ f r
open Classical in
theorem zZt{Q:VK}(neg:Bool)(hu:X.A.units+64<cLine)(I:Inv X pins σ H s)(rx:RelV x u)(ry:RelV y w)(ha:AbS X.K J S H)(r1:Rep X.K J H d1 x)(r2:Rep X.K J H d2 y)(e:DS.eqO S d1 d2=some b)
  (k:Q (.bl (if neg then !b else b)) H):wpAny (model X.prog X.w) X.A (compareOp (if neg then .NotEq else .Eq) u w) (EP X pins σ Q) X.xe s:=by
 unfold DS.eqO at e;have sc:∀(c1 c2:D) (v1 v2:V),DS.look S d1=some c1->DS.look S d2=some c2->(∀z,c1≠.lst z)->(∀z z' z2,c1≠.dct z z' z2)->(∀z,c1≠.tup z)->(∀z,c2≠.lst z)->(∀z z' z2,c2≠.dct z z' z2)->(∀z,c2≠.tup z)->Rep X.K J H c1 x/\Rep X.K J H c2 y:=λc1 c2 _ _ e1 e2 n1 n2 n1' n3 n4 n3'=>by
  have key:∀(d c:D) (v:V),Rep X.K J H d v->DS.look S d=some c->(∀z,c≠.lst z)->(∀z z' z2,c≠.dct z z' z2)->(∀z,c≠.tup z)->Rep X.K J H c v:=λd c v r e n n' n2=>by
   cases d with
   | ref n0=>
    obtain⟨a,ea,rfl⟩:=r;obtain⟨c',ec,o,eo,rc⟩:=ha.at ea;have e:S[n0]?=some c:=e;rw[ec]at e;cases e;cases c with
    | lst ds=>exact absurd rfl (n ds)
    | dct t ks vs=>exact absurd rfl (n' t ks vs)
    | _=>exact False.elim rc
   | ktup l=>cases e;exact absurd rfl (n2 l)
   | klst l=>cases e;exact absurd rfl (n l)
   | _=>cases e;exact r
  exact⟨key _ _ _ r1 e1 n1 n2 n1',key _ _ _ r2 e2 n3 n4 n3'⟩
 split at e
 ·rename_i a b e1 e2;obtain⟨q1,q2⟩:=sc _ _ x y e1 e2 (λ_ z=>nomatch z) (λ_ _ _ z=>nomatch z) (λ_ z=>nomatch z) (λ_ z=>nomatch z) (λ_ _ _ z=>nomatch z) (λ_ z=>nomatch z);obtain rfl:=q1;obtain rfl:=q2;cases e;have ed:decide (V.int a=V.int b)=decide (a=b):=by
   by_cases z:a=b
   ·subst z;simp
   ·rw[xi z,xi λq=>z (V.int.inj q)]
  cases neg with
  | true=>exact zV2 pins s σ H _ _ u w Q I rx ry ⟨rfl,by rw[ed];exact k⟩
  | false=>exact zVa pins s σ H _ _ u w Q I rx ry ⟨rfl,by rw[ed];exact k⟩
 ·rename_i a b e1 e2;obtain⟨q1,q2⟩:=sc _ _ x y e1 e2 (λ_ z=>nomatch z) (λ_ _ _ z=>nomatch z) (λ_ z=>nomatch z) (λ_ z=>nomatch z) (λ_ _ _ z=>nomatch z) (λ_ z=>nomatch z);obtain rfl:=q1;obtain rfl:=q2;cases e;have ed:decide (V.bl a=V.bl b)=decide (a=b):=by
   by_cases z:a=b
   ·subst z;simp
   ·rw[xi z,xi λq=>z (V.bl.inj q)]
  cases neg with
  | true=>exact zV2 pins s σ H _ _ u w Q I rx ry ⟨rfl,by rw[ed];exact k⟩
  | false=>exact zVa pins s σ H _ _ u w Q I rx ry ⟨rfl,by rw[ed];exact k⟩
 ·rename_i a b e1 e2;obtain⟨q1,q2⟩:=sc _ _ x y e1 e2 (λ_ z=>nomatch z) (λ_ _ _ z=>nomatch z) (λ_ z=>nomatch z) (λ_ z=>nomatch z) (λ_ _ _ z=>nomatch z) (λ_ z=>nomatch z);obtain rfl:=q1;obtain rfl:=q2;cases e;have ed:decide (V.str a=V.str b)=decide (a=b):=by
   by_cases z:a=b
   ·subst z;simp
   ·rw[xi z,xi λq=>z (V.str.inj q)]
  cases neg with
  | true=>exact zV2 pins s σ H _ _ u w Q I rx ry ⟨rfl,by rw[ed];exact k⟩
  | false=>exact zVa pins s σ H _ _ u w Q I rx ry ⟨rfl,by rw[ed];exact k⟩
 ·rename_i l m e1 e2;split at e
  ·rename_i h;cases e;have q1:=zEb ha r1 e1 h.1;have q2:=zEb ha r2 e2 h.2.1;have hd:=xq (zCo l) h.2.2.2;cases neg with
   | true=>exact zSj hu pins s σ H _ _ u w Q I rx ry (.inl ⟨_,_,q1,q2,zBv _ _ h.2.2.1,hd,by rw[zEc h.1 h.2.1];exact k⟩)
   | false=>exact zSm hu pins s σ H _ _ u w Q I rx ry (.inl ⟨_,_,q1,q2,zBv _ _ h.2.2.1,hd,by rw[zEc h.1 h.2.1];exact k⟩)
  ·cases e
 ·rename_i l m e1 e2;split at e
  ·rename_i h;cases e;have q1:=zEb ha r1 e1 h.1;have q2:=zEb ha r2 e2 h.2.1;have hd:=xq (zCo l) h.2.2.2;cases neg with
   | true=>exact zSj hu pins s σ H _ _ u w Q I rx ry (.inr ⟨_,_,q1,q2,zBv _ _ h.2.2.1,hd,by rw[zEc h.1 h.2.1];exact k⟩)
   | false=>exact zSm hu pins s σ H _ _ u w Q I rx ry (.inr ⟨_,_,q1,q2,zBv _ _ h.2.2.1,hd,by rw[zEc h.1 h.2.1];exact k⟩)
  ·cases e
 ·cases e
theorem zV9(hu:X.A.units+64<cLine)(hK:X.K=K:=by rfl):OpR X (compareOp .Eq) (r2Of K DS.eqD):=by
 subst hK;intro pins s σ H x y v u Q I rx ry hq15;obtain⟨J,S,d1,d2,d,ha,r1,r2,e,k⟩:=hq15;unfold DS.eqD at e;cases e1:DS.eqO S d1 d2 with
 | none=>rw[e1]at e;cases e
 | some b=>rw[e1]at e;cases e;exact zZt false hu I rx ry ha r1 r2 e1 (k _ H ha .refl rfl)
end
section
variable {X:Cx}{K:PySem.W.Frag}{E:XE}{J:Js}{S:Store}{H:Hp}{d d1 d2:D}{v:V}
theorem zH6:OpR X (compareOp .LtE) (r2Of K DS.leD):=by
 intro pins s σ H x y v u Q I rx ry hq16;obtain⟨J,S,d1,d2,d,ha,r1,r2,e,k⟩:=hq16;unfold DS.leD DS.iLt at e;split at e
 ·cases e;obtain rfl:=r1;obtain rfl:=r2;exact yBo pins s σ H _ _ v u Q I rx ry ⟨_,_,rfl,rfl,k _ H ha .refl (congrArg V.bl (by congr))⟩
 ·cases e;obtain rfl:=r1;obtain rfl:=r2;exact zN5 pins s σ H _ _ v u Q I rx ry ⟨_,_,rfl,rfl,k _ H ha .refl (congrArg V.bl (by congr))⟩
 ·cases e
theorem zYz:OpR X (compareOp .Gt) (r2Of K DS.gtD):=by
 intro pins s σ H x y v u Q I rx ry hq17;obtain⟨J,S,d1,d2,d,ha,r1,r2,e,k⟩:=hq17;unfold DS.gtD at e;split at e
 ·cases e;obtain rfl:=r1;obtain rfl:=r2;exact yBp pins s σ H _ _ v u Q I rx ry ⟨_,_,rfl,rfl,k _ H ha .refl (congrArg V.bl (by congr))⟩
 ·cases e
theorem zZ0:OpR X (compareOp .GtE) (r2Of K DS.geD):=by
 intro pins s σ H x y v u Q I rx ry hq18;obtain⟨J,S,d1,d2,d,ha,r1,r2,e,k⟩:=hq18;unfold DS.geD at e;split at e
 ·cases e;obtain rfl:=r1;obtain rfl:=r2;exact yBq pins s σ H _ _ v u Q I rx ry ⟨_,_,rfl,rfl,k _ H ha .refl (congrArg V.bl (by congr))⟩
 ·cases e
theorem zZl(r:Rep K J H d v):decide (v=.non)=DS.isN d:=by
 cases d with
 | non=>obtain rfl:=r;rfl
 | bl b=>obtain rfl:=r;rfl
 | int b=>obtain rfl:=r;rfl
 | str b=>obtain rfl:=r;rfl
 | ty b=>obtain rfl:=r;rfl
 | tup l=>obtain⟨a,xs,rfl,_⟩:=r;rfl
 | ktup l=>obtain⟨a,xs,rfl,_⟩:=r;rfl
 | klst l=>obtain⟨a,xs,rfl,_⟩:=r;rfl
 | lst l=>obtain⟨a,xs,rfl,_⟩:=r;rfl
 | dct t l m=>obtain⟨a,o,xs,rfl,_⟩:=r;rfl
 | st l=>
  rcases r with⟨xs,⟨f,g,q,params,body,scope,cl,pm,c,ctv,gs,e1,rfl,_⟩,_⟩|⟨a,C,dx,fr,xs,rfl,_⟩ <;> rfl
 | ref n=>obtain⟨a,_,rfl⟩:=r;rfl
theorem zYx:OpR X (compareOp .Is) (r2Of K DS.isD):=by
 intro pins s σ H x y v u Q I rx ry hq19;obtain⟨J,S,d1,d2,d,ha,r1,r2,e,k⟩:=hq19;unfold DS.isD at e;split at e
 ·cases e;obtain rfl:=r2;exact zYw pins s σ H _ _ v u Q I rx ry ⟨rfl,k _ H ha .refl (by rw[zZl r1];rfl)⟩
 ·cases e
theorem yAw{α β:Type}{l:List α}{xs:List β}{i:Int}{a:α}(hl:l.length=xs.length)(e:DS.atL l i=some a):∃j:Nat,l[j]?=some a/\∀b,xs[j]?=some b->atI xs i=some b:=by
 unfold DS.atL at e;unfold atI;rw[show DS.ixN l.length i=L2.ixN xs.length i by rw[hl];rfl]at e;cases e1:L2.ixN xs.length i with
 | none=>rw[e1]at e;cases e
 | some j=>rw[e1]at e;exact⟨j,e,λb eb=>eb⟩
theorem zGc(h:keyD k=keyD k'):k=k':=by cases k <;> cases k' <;> first|(cases h;rfl)|cases h
theorem zGb(r:Rep K J H (keyD k) v):v=kV k:=by cases k <;> exact r
theorem zFi:∀{l m:List Key},l.map keyD=m.map keyD->l=m
 | [],[],_=>rfl
 | [],_::_,h=>by cases h
 | _::_,[],h=>by cases h
 | a::l,b::m,h=>by
  have h:=ud h;rw[zGc h.1,zFi h.2]
theorem zGw(h:zTo k=zTo k'):k=k':=zFi (D.tup.inj h)
theorem zJu(h:DS.isKey d=true)(n:∀l,d≠.tup l):∃k,d=keyD k:=by
 cases d with
 | int i=>exact⟨.inl i,rfl⟩
 | str x=>exact⟨.inr x,rfl⟩
 | tup l=>exact absurd rfl (n l)
 | _=>cases h
theorem zIp:∀{l:List D},(l.all λd=>match d with
  | .int _=>true
  | .str _=>true
  | _=>false)=true->∃k:List Key,l=k.map keyD
 | [],_=>⟨[],rfl⟩
 | d::l,h=>by
  rw[vO,xl]at h;obtain⟨k,rfl⟩:=zIp h.2;cases d with
  | int i=>exact⟨.inl i::k,rfl⟩
  | str x=>exact⟨.inr x::k,rfl⟩
  | _=>cases h.1
theorem zGa:∀{k:List Key}{xs:List V},RepL K J H (k.map keyD) xs->xs=k.map kV
 | [],_,h=>h
 | a::k,_,⟨x,r,e,h,t⟩=>by subst e;rw[zGb h,zGa t];rfl
open Classical in
theorem zIs{κ:Type}[DecidableEq κ]{f:κ->D}(fi:∀a b,f a=f b->a=b)(k:κ):∀{kvs:List (κ × V)}{vs:List D},RepL K J H vs (kvs.map (·.2))->
  (valV kvs k=none/\f k ∉ kvs.map (λp=>f p.1)/\DS.look2 (kvs.map λp=>f p.1) vs (f k)=none)\/∃w dv,valV kvs k=some w/\f k∈kvs.map (λp=>f p.1)/\DS.look2 (kvs.map λp=>f p.1) vs (f k)=some dv/\Rep K J H dv w
 | [],vs,r=>.inl ⟨rfl,by simp,by cases vs <;> rfl⟩
 | p::kvs,[],r=>by have h:p.2::kvs.map (·.2)=[]:=r;cases h
 | p::kvs,dv::vs,⟨x,t,e,h,rl⟩=>by
  have e:=ud (e);obtain⟨rfl,rfl⟩:=e;by_cases z:p.1=k
  ·refine .inr ⟨p.2,dv,zE5 z,by simp[z],?_,h⟩;unfold DS.look2;rw[xt];exact xc (by rw[z])
  ·have zf:f p.1≠f k:=λq=>z (fi _ _ q)
   have e1:DS.look2 ((p::kvs).map λp=>f p.1) (dv::vs) (f k)=DS.look2 (kvs.map λp=>f p.1) vs (f k):=by
    rw[xt]
    conv=>lhs;unfold DS.look2
    exact xf zf
   rw[zE6 z,e1];rcases zIs fi k rl with⟨a1,a2,a3⟩|⟨w,dv',a1,a2,a3,a4⟩
   ·exact .inl ⟨a1,by simp[a2,xA zf] <;> simpa using a2,a3⟩
   ·exact .inr ⟨w,dv',a1,by rw[xt];exact vC _ a2,a3,a4⟩
theorem zOf(he:Rd H a o)(ht:DOb o t ks xs)(rl:RepL K J H vs xs)(ry:Rep K J H d y)(hk:DS.zFk t d=true):
  (DGet H a y none/\d ∉ ks/\DS.look2 ks vs d=none)\/∃w dv,DGet H a y (some w)/\d∈ks/\DS.look2 ks vs d=some dv/\Rep K J H dv w:=by
 unfold DS.zFk at hk;rw[xl]at hk;rcases ht with⟨rfl,kvs,rfl,rfl,rfl⟩|⟨rfl,kvs,rfl,rfl,rfl⟩
 ·obtain⟨k,rfl⟩:=zJu hk.1 λl z=>by subst z;cases hk.2
  obtain rfl:=zGb ry;rcases zIs (λa b=>zGc) k rl with⟨a1,a2,a3⟩|⟨w,dv,a1,a2,a3,a4⟩
  ·exact .inl ⟨.inl ⟨kvs,k,he,rfl,a1.symm⟩,a2,a3⟩
  ·exact .inr ⟨w,dv,.inl ⟨kvs,k,he,rfl,a1.symm⟩,a2,a3,a4⟩
 ·cases d with
  | tup l=>
   obtain⟨k,rfl⟩:=zIp (hk.1);obtain⟨b,zs,rfl,tb,rz⟩:=ry;obtain rfl:=zGa rz;rcases zIs (λa b=>zGw) k rl with⟨a1,a2,a3⟩|⟨w,dv,a1,a2,a3,a4⟩
   ·exact .inl ⟨.inr ⟨kvs,k,b,he,rfl,tb.1,a1.symm⟩,a2,a3⟩
   ·exact .inr ⟨w,dv,.inr ⟨kvs,k,b,he,rfl,tb.1,a1.symm⟩,a2,a3,a4⟩
  | _=>cases hk.2
theorem zOk(ha:AbS K J S H)(r:Rep K J H d v)(e:DS.look S d=some (.dct t ks vs)):∃a o xs,v=.ref a/\Rd H a o/\DOb o t ks xs/\RepL K J H vs xs:=by
 cases d with
 | dct t ks vs=>cases e;obtain⟨a,o,xs,rfl,_,h,q,rl⟩:=r;exact⟨a,o,xs,rfl,h,q,rl⟩
 | ref n=>
  obtain⟨a,ea,rfl⟩:=r;obtain⟨c,ec,o,eo,rc⟩:=ha.at ea;have e:S[n]?=_:=e;rw[ec]at e;cases e;obtain⟨xs,q,rl⟩:=rc;exact⟨a,o,xs,rfl,.inl eo,q,rl⟩
 | _=>cases e
theorem zMf(ha:AbS K J S H)(r:Rep K J H d v)(e:DS.look S d=some (.str x)):v=.str x:=by
 cases d with
 | str x=>cases e;exact r
 | ref n=>
  obtain⟨a,ea,rfl⟩:=r;obtain⟨c,ec,o,eo,rc⟩:=ha.at ea;have e:S[n]?=_:=e;rw[ec]at e;cases e;exact False.elim rc
 | _=>cases e
theorem zBs(e:DS.look S d=some (.tup l)\/DS.look S d=some (.lst l)):DS.items S d=some l:=by unfold DS.items;rcases e with e|e <;> rw[e]
theorem ix_D(hu:X.A.units+1<cLine)(hK:X.K=K:=by rfl):IxR X (r2Of K DS.ixD):=by
 subst hK;intro value slice pins s σ H x y v u Q I rx ry hq20 hs;obtain⟨J,S,d1,d2,d,ha,r1,r2,e,k⟩:=hq20;have seq:∀(l:List D) (i:Int),DS.items S d1=some l->d2=.int i->DS.atL l i=some d->wpAny (model X.prog X.w) X.A (subscriptTail value slice v u) (EP X pins σ Q) X.xe s:=λl i e1 e2 e3=>by
  subst e2;obtain rfl:=r2;obtain⟨a,xs,rfl,hq,rl⟩:=zGf ha r1 e1;obtain⟨j,ej,h⟩:=yAw rl.length e3;obtain⟨w,ew,rw'⟩:=rl.get ej;rcases hq with hq|hq
  ·exact zVr value slice pins s σ H _ _ v u Q I rx ry ⟨a,xs,i,w,rfl,rfl,hq,h w ew,k w H ha .refl rw'⟩ hs
  ·exact zZf value slice pins s σ H _ _ v u Q I rx ry ⟨a,xs,i,w,rfl,rfl,hq,h w ew,k w H ha .refl rw'⟩ hs
 unfold DS.ixD at e;split at e
 ·rename_i l i e1;exact seq l i (zBs (.inl e1)) rfl e
 ·rename_i l i e1;exact seq l i (zBs (.inr e1)) rfl e
 ·rename_i z i e1;split at e
  ·rename_i hz;cases e2:DS.atL z.cps.toList i with
   | none=>rw[e2]at e;cases e
   | some c=>
    rw[e2]at e;cases e;obtain rfl:=zMf ha r1 e1;obtain rfl:=r2;exact zZg value slice pins s σ H _ _ v u Q I rx ry ⟨z,i,c,rfl,rfl,hz,by unfold DS.atL at e2;unfold atI;exact e2,k _ H ha .refl rfl⟩ hs
  ·cases e
 ·rename_i t ks vs kk e1;split at e
  ·rename_i hk;obtain⟨a,o,xs,rfl,he,q,rl⟩:=zOk ha r1 e1;rcases zOf he q rl r2 hk with⟨_,_,h⟩|⟨w,dv,g,_,h,rw'⟩
   ·rw[h]at e;cases e
   ·rw[h]at e;cases e;obtain rfl:v=Value.ref a:=rx;exact tail_any (zIu I g) PySem.F.slot_dict_getitem.lookup (zOo hu I g ry λw' s3 I3 rw2=>⟨w,H,I3,rw2,k w H ha .refl rw'⟩) hs
  ·cases e
 ·cases e
theorem zBy{prog:Program}{w:World}{A:Around}{E:Value->Shared->Prop}{s:Shared}{lo hi:Option Int}{Q:Value->Shared->Prop}(ht:IsTup s.heap t items)(hs:s.heap.IsSliceOf sl vl vu .none)(pl:IsPart vl lo)(pu:IsPart vu hi)
  (hw:HT.sIx items.size 0 lo=0/\HT.sIx items.size items.size hi=items.size) (h:Q (.ref t) s):wpAny (model prog w) A (getItem (.ref t) (.ref sl)) Q E s:=by
 obtain⟨os,hos,hcs,hds⟩:=id hs;have hTs:s.TypeIs (.ref sl) "slice":=⟨os,hos,hcs⟩;unfold getItem
 try with_reducible refine xS ?_
 first|refine xa (xg ?_)|skip
 refine xa (wpAny_sequenceKey ht.typeIs (by decide) ?_);refine xa (vD ht.typeIs vE (vA vE ht.typeIs entry_tuple_getitem ?_ (args_tuple_getitem _ _)));show wpAny _ _ (Builtin.Tuple.tupleItemsOf (.ref t) >>= _) _ _ s;refine xa (tupleItemsOf_ ht ?_);refine xa (v7 hTs ?_);rw[xc (by decide)];refine xa (HT.sliceApplied_gen hs pl pu ?_);show wpAny _ _ (if(((HT.sIx items.size 0 lo:Nat):Int) == 0 && (1:Int) == 1 && (HT.sIx items.size items.size hi-HT.sIx items.size 0 lo) == items.size)=true then _ else _) _ _ s;rw[xc (by rw[hw.1,hw.2];simp)];have tex:∀{Q:Bool->Shared->Prop},Q true s->wpAny (model prog w) A.in1 (Builtin.Tuple.tupleIsExact (.ref t)) Q E s:=λ{Q} q=>by
  unfold Builtin.Tuple.tupleIsExact;refine xa (v7 ht.typeIs (xg ?_));exact q
 refine xa (tex ?_);rw[xc rfl];refine xa (wpAny_rule ?_);exact xg ⟨_,rfl,xg h⟩
theorem zIw(rl:RepL K J H l xs)(lo hi:Option Int):RepL K J H (DS.cutL l lo hi) (cutV xs lo hi):=by unfold DS.cutL cutV;rw[show DS.sIx l.length 0 lo=HT.sIx xs.length 0 lo by rw[rl.length];rfl,show DS.sIx l.length l.length hi=HT.sIx xs.length xs.length hi by rw[rl.length];rfl];exact(rl.drop _).take _
theorem zOp{xs:List V}{lo hi:Option Int}(rl:RepL K J H l xs)(hw:HT.sIx xs.length 0 lo=0/\HT.sIx xs.length xs.length hi=xs.length):DS.cutL l lo hi=l:=by unfold DS.cutL;rw[show DS.sIx l.length 0 lo=HT.sIx xs.length 0 lo by rw[rl.length];rfl,show DS.sIx l.length l.length hi=HT.sIx xs.length xs.length hi by rw[rl.length];rfl,hw.1,hw.2,<- rl.length];simp
theorem zFj(ha:AbS K J S H)(r:Rep K J H d v)(e:DS.look S d=some (.lst l)):∃a xs,v=.ref a/\SqL K H a xs/\RepL K J H l xs:=by
 cases d with
 | lst l=>cases e;obtain⟨a,xs,rfl,t,rl⟩:=r;exact⟨a,xs,rfl,t.sq,rl⟩
 | klst l=>cases e;obtain⟨a,xs,rfl,t,rl⟩:=r;exact⟨a,xs,rfl,t.sq,rl⟩
 | ref n=>
  obtain⟨a,ea,rfl⟩:=r;obtain⟨c,ec,o,eo,rc⟩:=ha.at ea;have e:S[n]?=_:=e;rw[ec]at e;cases e;obtain⟨xs,rfl,rl⟩:=rc;exact⟨a,xs,rfl,.inl (.inl eo),rl⟩
 | _=>cases e
theorem sl_D(hK:X.K=K:=by rfl):SlR X (slOf K DS.slD):=by
 subst hK;intro pins s σ H x v vl vu lo hi sl Q I rx hs pl pu hq21;obtain⟨J,S,d1,d,ha,r1,e,k⟩:=hq21;unfold DS.slD at e;split at e
 ·rename_i l;cases e;have r0:=r1;obtain⟨a,xs,rfl,t,rl⟩:=r1;by_cases hw:HT.sIx xs.length 0 lo=0/\HT.sIx xs.length xs.length hi=xs.length
  ·cases rx;obtain⟨its,r,ht,hz⟩:=I.tuple t.sq;have hlen:its.toArray.size=xs.length:=by rw[xu];exact r.length.symm
   refine⟨"tuple",_,vE.lookup,ht.typeIs,zBy ht hs pl pu (by rw[hlen];exact hw) ⟨.ref a,H,I,rfl,k _ H ha .refl ?_⟩⟩;rw[zOp rl hw];exact r0
  ·exact zSe pins s σ H _ v vl vu lo hi sl Q I rx hs pl pu ⟨a,xs,rfl,t.sq,hw,λp n=>k _ _ (ha.push n) (.push n) ⟨p,_,rfl,⟨zAb,ha.out n⟩,RepL.grow (.push n) _ _ (zIw rl lo hi)⟩⟩
 ·rename_i l;have r0:=r1;obtain⟨a,xs,rfl,t,rl⟩:=r1;split at e
  ·rename_i hw;cases e;have hw:HT.sIx xs.length 0 lo=0/\HT.sIx xs.length xs.length hi=xs.length:=by rw[<- rl.length];exact hw
   cases rx;obtain⟨its,r,ht,hz⟩:=I.tuple (t.sq);have hlen:its.toArray.size=xs.length:=by rw[xu];exact r.length.symm
   exact⟨"tuple",_,vE.lookup,ht.typeIs,zBy ht hs pl pu (by rw[hlen];exact hw) ⟨.ref a,H,I,rfl,k _ H ha .refl r0⟩⟩
  ·rename_i hw;cases e;have hw:¬ (HT.sIx xs.length 0 lo=0/\HT.sIx xs.length xs.length hi=xs.length):=by rw[<- rl.length];exact hw
   exact zSe pins s σ H _ v vl vu lo hi sl Q I rx hs pl pu ⟨a,xs,rfl,t.sq,hw,λp n=>k _ _ (ha.push n) (.push n) ⟨p,_,rfl,⟨zAb,ha.out n⟩,RepL.grow (.push n) _ _ (zIw rl lo hi)⟩⟩
 ·split at e
  ·rename_i l e1;cases e;obtain⟨a,xs,rfl,t,rl⟩:=zFj ha r1 e1;exact zTv pins s σ H _ v vl vu lo hi sl Q I rx hs pl pu ⟨a,xs,rfl,t,λp n=>k _ _ (ha.push n) (.push n) ⟨p,_,rfl,⟨zAb,ha.out n⟩,RepL.grow (.push n) _ _ (zIw rl lo hi)⟩⟩
  ·cases e
theorem RelV.one(h:RelV x u)(h':RelV y u):x=y:=by
 have inv:∀{z:V},RelV z u->absV u=some z:=λ{z} q=>by
  cases z with
  | non=>obtain rfl:u=Value.none:=q;rfl
  | bl b=>obtain rfl:u=Value.bool b:=q;rfl
  | int i=>obtain⟨t,rfl⟩:=q;rfl
  | str i=>obtain⟨t,rfl⟩:=q;rfl
  | byt i=>obtain⟨t,rfl⟩:=q;rfl
  | flt i=>obtain⟨t,rfl⟩:=q;rfl
  | ref a=>obtain rfl:u=Value.ref a:=q;rfl
  | ty n=>obtain rfl:u=Value.type n:=q;rfl
 exact xB ((inv h).symm.trans (inv h'))
theorem zHf:∀{l:List D}{i:Nat}{d:D},DS.zCm l=true->l[i]?=some d->d.flat=true
 | [],_,_,_,e=>by simp at e
 | a::l,0,_,f,e=>by
  have f:(a.flat && DS.zCm l)=true:=f;rw[xl]at f;simp at e;subst e;exact f.1
 | a::l,i+1,d,f,e=>by
  have f:(a.flat && DS.zCm l)=true:=f;rw[xl]at f;exact zHf f.2 (by simpa using e)
theorem zOg:∀{l:List D}{i:Nat}{d:D},l[i]?=some d->d.dep<=DS.depL l
 | [],_,_,e=>by simp at e
 | a::l,0,_,e=>by
  simp at e;subst e;show a.dep<=max a.dep (DS.depL l);lia
 | a::l,i+1,d,e=>by
  have:=zOg (by simpa using e);show d.dep<=max a.dep (DS.depL l);lia
open Classical in
theorem zVk(hu:X.A.units+64<cLine)(I:Inv X pins σ H s)(rx:RelV x u)(r1:Rep X.K J H d1 x)(rl:RepL X.K J H l xs)(h:DS.okIn d1 l)(us:List Value)(rv:Vals xs us):
  ∃g:Value->Bool,(∀z∈us,SeqAt.EqAt X.A.in1 s z u (g z))/\us.any g=decide (d1∈l):=by
 obtain⟨f1,f2,hd,hc⟩:=h;have hxl:=rv.length;have hl:=rl.length;refine⟨λz=>decide (∃i:Nat,us[i]?=some z/\l[i]?=some d1),λz hz=>?_,?_⟩
 ·obtain⟨i,ei⟩:=uu.mp hz;have hi:=(xC.mp ei).1;have hx:xs[i]?=some xs[i]:=xo (by nofun);obtain⟨d,ed,rd⟩:=rl.get' hx;obtain⟨z',ez,rz⟩:=rv.get hx;rw[ei]at ez;cases ez;have fd:=zHf f2 ed;have cd:=hc d (vz ed);have e:=zSz I 60 (toDv d) (toDv d1) (xq (zJk d) (xq (zOg ed) hd)) X.A.in1 xs[i] x z u (by show X.A.units+1+60<cLine;lia) (zD0 _ _ fd rd) (zD0 _ _ f1 r1) rz rx (zFw _ _ cd);have eb:(toDv d).eqv (toDv d1)=decide (∃i:Nat,us[i]?=some z/\l[i]?=some d1):=by
   by_cases q:d=d1
   ·subst q;rw[xj ⟨i,ei,ed⟩];exact(Dv.eqv_iff _ _).mpr rfl
   ·have n1:¬ ∃i:Nat,us[i]?=some z/\l[i]?=some d1:=by
     rintro⟨j,ej,dj⟩;obtain⟨x',ex,rj⟩:=rl.get dj;obtain⟨z'',ez,rz'⟩:=rv.get ex;rw[ej]at ez;cases ez;have:=RelV.one rz rz';subst this;exact q (zFv _ _ fd f1 (Den.inj I _ _ _ (zD0 _ _ fd rd) (zD0 _ _ f1 rj) (zFw _ _ cd)))
    rw[xi n1];cases qq:(toDv d).eqv (toDv d1)with
    | false=>rfl
    | true=>exact absurd (zFv _ _ fd f1 ((Dv.eqv_iff _ _).mp qq)) q
  show SeqAt.EqAt X.A.in1 s z u (decide (∃i:Nat,us[i]?=some z/\l[i]?=some d1));rw[<- eb];exact e
 ·rw[vn];simp only[List.any_eq_true,decide_eq_true_eq];constructor
  ·rintro⟨z,_,i,_,e⟩;exact vz e
  ·intro hm;obtain⟨i,e⟩:=uu.mp hm;have hi:i<us.length:=by rw[<- hxl,<- hl];exact(xC.mp e).1
   exact⟨us[i],List.getElem_mem hi,i,xo hi,e⟩
open Classical in
theorem zSu{Q:VK}(neg:Bool)(hu:X.A.units+64<cLine)(I:Inv X pins σ H s)(rx:RelV x u)(ry:RelV y w)(ha:AbS X.K J S H)(r1:Rep X.K J H d1 x)(r2:Rep X.K J H d2 y)(e:DS.inO S d1 d2=some b)
  (k:Q (.bl (if neg then !b else b)) H):wpAny (model X.prog X.w) X.A (compareOp (if neg then .NotIn else .In) u w) (EP X pins σ Q) X.xe s:=by
 have hu1:X.A.units+1<cLine:=by nofun
 have seq:∀(l:List D),DS.items S d2=some l->DS.okIn d1 l->b=decide (d1∈l)->wpAny (model X.prog X.w) X.A (compareOp (if neg then .NotIn else .In) u w) (EP X pins σ Q) X.xe s:=λl e1 ⟨f1,f2,hd,hc⟩ eb=>by
  obtain⟨a,xs,rfl,hq,rl⟩:=zGf ha r2 e1;cases ry;have all:=zVk hu I rx r1 rl ⟨f1,f2,hd,hc⟩;rcases hq with hq|hq
  ·obtain⟨its,r,pl,hz⟩:=I.list hq;obtain⟨g,hg,ea⟩:=all its r;have ea2:its.toArray.any g=b:=by rw[eb,<- ea];simp
   cases neg with
   | true=>exact SeqAt.notIn_listAt g pl.isList (λz hz=>hg z (by simpa using hz)) ⟨.bl _,H,I,rfl,by rw[ea2];exact k⟩
   | false=>exact SeqAt.in_listAt g pl.isList (λz hz=>hg z (by simpa using hz)) ⟨.bl _,H,I,rfl,by rw[ea2];exact k⟩
  ·obtain⟨its,r,pl,hz⟩:=I.tuple hq;obtain⟨g,hg,ea⟩:=all its r;have ea2:its.toArray.any g=b:=by rw[eb,<- ea];simp
   cases neg with
   | true=>exact SeqAt.notIn_tupleAt g pl (λz hz=>hg z (by simpa using hz)) ⟨.bl _,H,I,rfl,by rw[ea2];exact k⟩
   | false=>exact SeqAt.in_tupleAt g pl (λz hz=>hg z (by simpa using hz)) ⟨.bl _,H,I,rfl,by rw[ea2];exact k⟩
 unfold DS.inO at e;split at e
 ·rename_i l e1;split at e
  ·rename_i h;cases e;exact seq l (zBs (.inl e1)) h rfl
  ·cases e
 ·rename_i l e1;split at e
  ·rename_i h;cases e;exact seq l (zBs (.inr e1)) h rfl
  ·cases e
 ·rename_i t ks vs e1;split at e
  ·rename_i hk;cases e;obtain⟨a,o,xs,rfl,he,q,rl⟩:=zOk ha r2 e1;cases ry;rcases zOf he q rl r1 hk with⟨g,h,_⟩|⟨w,dv,g,h,_⟩
   ·rw[xi h]at k;cases neg with
    | true=>exact zOn hu1 I g rx λs' I'=>⟨.bl _,H,I',rfl,k⟩
    | false=>exact d_in hu1 I g rx λs' I'=>⟨.bl _,H,I',rfl,k⟩
   ·rw[xj h]at k;cases neg with
    | true=>exact zOn hu1 I g rx λs' I'=>⟨.bl _,H,I',rfl,k⟩
    | false=>exact d_in hu1 I g rx λs' I'=>⟨.bl _,H,I',rfl,k⟩
  ·cases e
 ·cases e
theorem zN7(hu:X.A.units+64<cLine)(hK:X.K=K:=by rfl):OpR X (compareOp .In) (r2Of K DS.inD):=by
 subst hK;intro pins s σ H x y v u Q I rx ry hq22;obtain⟨J,S,d1,d2,d,ha,r1,r2,e,k⟩:=hq22;unfold DS.inD at e;cases e1:DS.inO S d1 d2 with
 | none=>rw[e1]at e;cases e
 | some b=>rw[e1]at e;cases e;exact zSu false hu I rx ry ha r1 r2 e1 (k _ H ha .refl rfl)
theorem zL2(hu:X.A.units+64<cLine)(hK:X.K=K:=by rfl):OpR X (compareOp .NotIn) (r2Of K DS.zDj):=by
 subst hK;intro pins s σ H x y v u Q I rx ry hq23;obtain⟨J,S,d1,d2,d,ha,r1,r2,e,k⟩:=hq23;unfold DS.zDj at e;cases e1:DS.inO S d1 d2 with
 | none=>rw[e1]at e;cases e
 | some b=>rw[e1]at e;cases e;exact zSu true hu I rx ry ha r1 r2 e1 (k _ H ha .refl rfl)
noncomputable def pOf (K:PySem.W.Frag) (g:Store->D->D->D->Option Store):TSet:=λo i v H Q=>∃J S d1 d2 d3 S',AbS K J S H/\Rep K J H d1 o/\Rep K J H d2 i/\Rep K J H d3 v/\g S d1 d2 d3=some S'/\∀H',AbS K J S' H'->Grow J H J H'->Q H'
open Classical in
theorem zSg{κ:Type}[DecidableEq κ]{f:κ->D}(fi:∀a b,f a=f b->a=b){k:κ}{dv:D}{w:V}{kvs:List (κ × V)}{vs:List D}(r:RepL K J H vs (kvs.map (·.2)))(rv:Rep K J H dv w):
  (DS.put2 (kvs.map λp=>f p.1) vs (f k) dv).1=(putK kvs k w).map (λp=>f p.1)/\RepL K J H (DS.put2 (kvs.map λp=>f p.1) vs (f k) dv).2 ((putK kvs k w).map (·.2)):=by
 have any_iff:(kvs.any λkv=>decide (kv.1=k))=true <-> f k∈kvs.map λp=>f p.1:=by
  simp only[List.any_eq_true,decide_eq_true_eq,xE];constructor
  ·rintro⟨p,hp,e⟩;exact⟨p,hp,by rw[e]⟩
  ·rintro⟨p,hp,e⟩;exact⟨p,hp,fi _ _ e⟩
 unfold DS.put2 putK;by_cases hm:f k∈kvs.map λp=>f p.1
 ·rw[xc hm,xc (any_iff.mpr hm)];refine⟨?_,?_⟩
  ·rw[xU];refine List.map_congr_left λp _=>?_
   show f p.1=f (if p.1=k then(p.1,w)else p).1;split <;> rfl
  ·clear hm any_iff
   induction kvs generalizing vs with
   | nil=>cases vs <;> rfl
   | cons p kvs ih=>
    cases vs with
    | nil=>cases r
    | cons dw vs=>
     obtain⟨x,t,e,h,rl⟩:=r;have e:=ud (e);obtain⟨rfl,rfl⟩:=e;refine⟨(if p.1=k then(p.1,w)else p).2,_,rfl,?_,ih rl⟩;by_cases z:p.1=k
     ·rw[xc z,xc (show f p.1=f k by rw[z])];exact rv
     ·rw[xf z,xf λq=>z (fi _ _ q)];exact h
 ·rw[xf hm,xf (λz=>hm (any_iff.mp z))];refine⟨by simp,?_⟩;rw[xP];exact r.snoc rv
theorem yB4(hu:X.A.units+1<cLine):PSet X (pOf K DS.putD):=by
 intro pins s σ H o i v ov iv u Q I ro ri rv hq24;obtain⟨J,S,d1,d2,d3,S',ha,r1,r2,r3,e,k⟩:=hq24;unfold DS.putD at e;split at e
 ·rename_i n;obtain⟨a,ea,rfl⟩:=r1;obtain⟨c,ec,ob,eo,rc⟩:=ha.at ea;split at e
  ·rename_i l es;rw[ec]at es;cases es;obtain⟨xs,rfl,rl⟩:=rc;cases d2 with
   | int i'=>
    obtain rfl:=r2;simp only at e;cases ej:DS.ixN l.length i' with
    | none=>rw[ej]at e;cases e
    | some j=>
     rw[ej]at e;cases e;refine set_list pins s σ H _ _ v ov iv u Q I ro ri rv ⟨a,xs,i',j,rfl,rfl,eo,by rw[<- rl.length];exact ej,?_⟩;exact k _ (ha.write ea ⟨_,rfl,rl.set j r3⟩) (.write ea)
   | _=>cases e
  ·rename_i t ks vs es;rw[ec]at es;cases es;obtain⟨xs,q,rl⟩:=rc;split at e
   ·rename_i hk;cases e;cases ro;have fin:∀H',DPut H a i v H'->AbS K J (S.set n (.dct t (DS.put2 ks vs d2 d3).1 (DS.put2 ks vs d2 d3).2)) H'->Grow J H J H'->wpAny (model X.prog X.w) X.A (setItem (.ref a) iv u) (λ_ s'=>∃H',Inv X pins σ H' s'/\Q H') X.xe s:=λH' g a1 g1=>
     zOm hu I g ri rv λs' I'=>⟨H',I',k H' a1 g1⟩
    have hk1:=hk.1;unfold DS.zFk at hk1;rw[xl]at hk1;rcases q with⟨rfl,kvs,rfl,rfl,rfl⟩|⟨rfl,kvs,rfl,rfl,rfl⟩
    ·obtain⟨kk,rfl⟩:=zJu hk1.1 λl z=>by subst z;cases hk1.2
     obtain rfl:=zGb r2;obtain⟨p1,p2⟩:=zSg (λa b=>zGc) rl r3;refine fin _ (.inl ⟨kvs,kk,eo,rfl,by have:=hk.2;rw[xp]at this;exact this,rfl⟩) (ha.write ea ⟨_,.inl ⟨rfl,_,rfl,p1,rfl⟩,p2⟩) (.write ea)
    ·cases d2 with
     | tup l=>
      obtain⟨kk,rfl⟩:=zIp (hk1.1);obtain⟨b,zs,rfl,tb,rz⟩:=r2;obtain rfl:=zGa rz;obtain⟨p1,p2⟩:=zSg (λa b=>zGw) rl r3;refine fin _ (.inr ⟨kvs,kk,b,eo,rfl,tb.1,by have:=hk.2;rw[xp]at this;exact this,rfl⟩) (ha.write ea ⟨_,.inr ⟨rfl,_,rfl,p1,rfl⟩,p2⟩) (.write ea)
     | _=>cases hk1.2
   ·cases e
  ·cases e
 ·cases e
theorem zWj{o i e:Expr}{mo mi m:DS.EM}{sp2 pos:Pos}{g:Store->D->D->D->Option Store}(hs:PSet X (pOf K g))(ho:DE X K E o mo)(hi:DE X K E i mi)(he:DE X K E e m)(h:nsl i=true:=by rfl)(h2:nco e=true:=by rfl):DS1 X K E (.Assign [.Subscript o i sp2] e pos) (DS.sPut g mo mi m):=
 ⟨(qasgs' he.h (zUl ho.h hi.h hs h) h2).imp λD σ H ⟨env,S,J,ha,he,q⟩=>⟨env,S,J,ha,he,q.then.imp λdv S1 J1 H1 _ a1 g1 q1 v rv=>⟨env,S1,J1,a1,he.grow g1,q1.then.imp λdx S2 J2 H2 _ a2 g2 q2 x rx=>
  ⟨env,S2,J2,a2,he.grow (g1.trans g2),q2.then.imp λdi S3 J3 H3 _ a3 g3 q3 y ry=>by
   cases e1:g S3 dx di dv with
   | none=>rw[e1]at q3;exact False.elim q3
   | some S4=>
    rw[e1]at q3;exact⟨J3,S3,dx,di,dv,S4,a3,Rep.grow g3 _ _ rx,ry,Rep.grow (g2.trans g3) _ _ rv,e1,λH' h1 h2=>q3 J3 H' σ h1 h2 (he.grow (g1.trans (g2.trans (g3.trans h2))))⟩⟩⟩⟩⟩
theorem zC3{ds:List D}(r:RepL K J H [d] xs):∃x,xs=[x]/\Rep K J H d x:=by obtain⟨x,t,rfl,h,rfl⟩:=r;exact⟨x,rfl,h⟩
theorem yAr{kvs:List (List Key × V)}{Q:Value->Shared->Prop}{E:Value->Shared->Prop}(I:Inv X pins σ H s)(e:Rd H a (.dT kvs))(h:∀t s',Inv X pins σ H s'->Q (.int kvs.length t) s'):wpAny (model X.prog X.w) A (call (.builtin "len") [.ref a]) Q E s:=by
 obtain⟨z,hd,xs,rel,dd⟩:=zLm I.hok e;have hT:=dd.typeIs;obtain⟨o,es,ep,ho,hx,hdat,hes,hall,hn⟩:=dd;have hsz:es.size=kvs.length:=by rw[<- uT,hes,xp,<- Paired.length rel]
 rw[sizeLine_eq]at z;have mt:MeetsIn X.prog X.w (Builtin.«dict.__len__» ⟨[.ref a],[]⟩) (λ_ R s'=>s'=s/\R (.ok (.ret (.int kvs.length s'.toks))) { s' with toks:=s'.toks+1 }):=.of_wp λA R s' hq25=>by
  obtain⟨e,h⟩:=hq25;subst e;show wpAny _ _ (dictSize a >>= _) _ _ s';unfold dictSize;refine xa (xa (wpAny_dictEntries ho hdat (xg ?_)));show wpAny _ _ (Builtin.Dict.pendingCount a >>= _) _ _ s';refine xa (wpAny_pendingCount_other hd ?_);refine wpAny_ret_mkInt ?_;rw[Nat.add_zero,hsz];exact h
 refine Calls.call_function_entry kind_len plain_len entry_len (args_len1 _) ?_
 unfold Builtin.«len»;refine xa (xg ?_);refine xa (vD hT PySem.F.slot_dict_len (call_meetsIn PySem.F.slot_dict_len hT PySem.F.entry_dict_len (PySem.F.args_dict_len_1 _) mt ⟨rfl,?_⟩));show wpAny _ _ _ _ _ { s with toks:=s.toks+1 };refine xa (xS (xg ?_));refine xa (wpAny_letGo ?_);show wpAny _ _ (if((kvs.length:Nat):Int)<0 then _ else _) _ _ _;rw[xf (by nofun)];show wpAny _ _ (if((kvs.length:Nat):Int) >= 2 ^ 63 then _ else _) _ _ _;rw[xf (by nofun)];exact xa (wpAny_mkInt (xg ⟨_,rfl,h _ _ (I.tok _)⟩))
theorem zLv(hK:X.K=K:=by rfl):zB9 X (.builtin "len") (cOf K DS.lenB):=by
 subst hK;intro pins s σ H xs us Q I r hq26;obtain⟨J,S,ds,d,ha,rl,e,k⟩:=hq26;unfold DS.lenB at e;split at e
 ·rename_i d0;obtain⟨x,rfl,rx⟩:=zC3 (ds:=[]) rl;have seq:∀l,DS.items S d0=some l->d=.int l.length->wpAny (model X.prog X.w) X.A (call (.builtin "len") us) (EP X pins σ Q) X.xe s:=λl e1 e2=>by
   subst e2;obtain⟨a,ys,rfl,hq,q⟩:=zGf ha rx e1;exact zHn pins s σ H _ us Q I r ⟨a,ys,rfl,hq,k _ H ha .refl (by rw[q.length];rfl)⟩
  split at e
  ·rename_i l e1;cases e;exact seq l (zBs (.inl e1)) rfl
  ·rename_i l e1;cases e;exact seq l (zBs (.inr e1)) rfl
  ·rename_i t ks vs e1;cases e;obtain⟨a,o,ys,rfl,he,q,_⟩:=zOk ha rx e1;obtain⟨u,rfl,ru⟩:=vals1 r;cases ru;rcases q with⟨rfl,kvs,rfl,rfl,rfl⟩|⟨rfl,kvs,rfl,rfl,rfl⟩
   ·exact yCn I he λt s' I'=>⟨.int kvs.length,H,I',⟨t,rfl⟩,k _ H ha .refl (by rw[xp];rfl)⟩
   ·exact yAr I he λt s' I'=>⟨.int kvs.length,H,I',⟨t,rfl⟩,k _ H ha .refl (by rw[xp];rfl)⟩
  ·rename_i z e1;split at e
   ·rename_i hz;cases e;obtain rfl:=zMf ha rx e1;exact zHm pins s σ H _ us Q I r ⟨z,rfl,hz,k _ H ha .refl rfl⟩
   ·cases e
  ·cases e
 ·cases e
theorem zHk(hK:X.K=K:=by rfl):zB9 X (.type "tuple") (cOf K DS.zCn):=by
 subst hK;intro pins s σ H xs us Q I r hq27;obtain⟨J,S,ds,d,ha,rl,e,k⟩:=hq27;unfold DS.zCn at e;split at e
 ·rename_i d0;obtain⟨x,rfl,rx⟩:=zC3 (ds:=[]) rl;split at e
  ·rename_i l;cases e;have r0:=rx;obtain⟨a,ys,rfl,t,q⟩:=rx;exact zCk pins s σ H _ us Q I r ⟨a,ys,rfl,.inr ⟨t.sq,k _ H ha .refl r0⟩⟩
  ·rename_i l;cases e;have r0:=rx;obtain⟨a,ys,rfl,t,q⟩:=rx;exact zCk pins s σ H _ us Q I r ⟨a,ys,rfl,.inr ⟨t.sq,k _ H ha .refl r0⟩⟩
  ·cases e1:DS.litems S d0 with
   | none=>rw[e1]at e;cases e
   | some l=>
    rw[e1]at e;cases e;obtain⟨a,ys,rfl,hq,q⟩:=zCs ha rx e1;exact zCk pins s σ H _ us Q I r ⟨a,ys,rfl,.inl ⟨.inl hq,λp n=>k _ _ (ha.push n) (.push n) ⟨p,ys,rfl,⟨zAb,ha.out n⟩,RepL.grow (.push n) _ _ q⟩⟩⟩
 ·cases e
theorem zKi:∀{l:List D}{xs:List V}{bs:List Bool},RepL K J H l xs->DS.bools l=some bs->xs=bs.map V.bl
 | [],_,_,r,e=>by cases e;exact r
 | d::l,_,bs,⟨x,t,e0,h,rl⟩,e=>by
  subst e0;cases d with
  | bl b=>
   unfold DS.bools at e;cases e1:DS.bools l with
   | none=>rw[e1]at e;cases e
   | some cs=>rw[e1]at e;cases e;rw[zKi rl e1,show x=.bl b from h];rfl
  | _=>cases e
theorem zLy(hc:X.calm=true)(hK:X.K=K:=by rfl):zB9 X (.builtin "all") (cOf K DS.allB):=by
 subst hK;intro pins s σ H xs us Q I r hq28;obtain⟨J,S,ds,d,ha,rl,e,k⟩:=hq28;unfold DS.allB at e;split at e
 ·rename_i d0;obtain⟨x,rfl,rx⟩:=zC3 (ds:=[]) rl;cases e1:DS.litems S d0 with
  | none=>rw[e1]at e;cases e
  | some l=>
   rw[e1]at e;cases e2:DS.bools l with
   | none=>simp[e2]at e
   | some bs=>
    simp only[Option.bind_some,e2,uy,Option.some.injEq]at e;subst e;obtain⟨a,ys,rfl,hq,q⟩:=zCs ha rx e1;obtain rfl:=zKi q e2;exact zP8 hc pins s σ H _ us Q I r ⟨a,bs,rfl,.inl hq,k _ H ha .refl rfl⟩
 ·cases e
theorem zFt(r:RepL K J H [d1,d2] xs):∃x y,xs=[x,y]/\Rep K J H d1 x/\Rep K J H d2 y:=by obtain⟨x,t,rfl,h,y,t',rfl,h',rfl⟩:=r;exact⟨x,y,rfl,h,h'⟩
theorem zLu(hc:X.calm=true):zB9 X (.builtin "max") (cOf K DS.max2B):=by
 intro pins s σ H xs us Q I r hq29;obtain⟨J,S,ds,d,ha,rl,e,k⟩:=hq29;unfold DS.max2B at e;split at e
 ·obtain⟨x,y,rfl,rx,ry⟩:=zFt rl;obtain rfl:=rx;obtain rfl:=ry;cases e;exact zP4 hc pins s σ H _ us Q I r ⟨_,_,rfl,k _ H ha .refl (congrArg V.int (by congr))⟩
 ·cases e
theorem zLt(hc:X.calm=true):zB9 X (.builtin "min") (cOf K DS.min2B):=by
 intro pins s σ H xs us Q I r hq30;obtain⟨J,S,ds,d,ha,rl,e,k⟩:=hq30;unfold DS.min2B at e;split at e
 ·obtain⟨x,y,rfl,rx,ry⟩:=zFt rl;obtain rfl:=rx;obtain rfl:=ry;cases e;exact zP3 hc pins s σ H _ us Q I r ⟨_,_,rfl,k _ H ha .refl (congrArg V.int (by congr))⟩
 ·cases e
theorem zP9:zB9 X (.builtin "abs") (cOf K DS.absB):=by
 intro pins s σ H xs us Q I r hq31;obtain⟨J,S,ds,d,ha,rl,e,k⟩:=hq31;unfold DS.absB at e;split at e
 ·obtain⟨x,rfl,rx⟩:=zC3 (ds:=[]) rl;obtain rfl:=rx;cases e;exact zS2 pins s σ H _ us Q I r ⟨_,rfl,k _ H ha .refl (congrArg V.int (by congr))⟩
 ·cases e
theorem zL6:MtR X "list.append" (mOf K DS.zAi):=by
 intro pins s σ H x xs v us Q I rx rs hq32;obtain⟨J,S,d1,ds,d,S',ha,r1,rl,e,k⟩:=hq32;unfold DS.zAi at e;split at e
 ·rename_i n dv;obtain⟨a,ea,rfl⟩:=r1;obtain⟨c,ec,ob,eo,rc⟩:=ha.at ea;obtain⟨y,rfl,ry⟩:=zC3 (ds:=[]) rl;split at e
  ·rename_i l es;rw[ec]at es;cases es;obtain⟨ys,rfl,rl⟩:=rc;split at e
   ·rename_i hz;cases e;exact zNf pins s σ H _ _ v us Q I rx rs ⟨a,ys,y,rfl,rfl,eo,by rw[<- rl.length];exact hz,k _ _ (ha.write ea ⟨_,rfl,rl.snoc ry⟩) (.write ea) rfl⟩
   ·cases e
  ·cases e
 ·cases e
theorem zVi:MtR X "list.pop" (mOf K DS.popM):=by
 intro pins s σ H x xs v us Q I rx rs hq33;obtain⟨J,S,d1,ds,d,S',ha,r1,rl,e,k⟩:=hq33;unfold DS.popM at e;split at e
 ·rename_i n;obtain⟨a,ea,rfl⟩:=r1;obtain⟨c,ec,ob,eo,rc⟩:=ha.at ea;obtain rfl:=rl;split at e
  ·rename_i l es;rw[ec]at es;cases es;obtain⟨ys,rfl,rl⟩:=rc;cases e1:l[l.length-1]? with
   | none=>rw[e1]at e;cases e
   | some w=>
    rw[e1]at e;simp only[uy,Option.some.injEq,Prod.mk.injEq]at e;obtain⟨rfl,rfl⟩:=e;obtain⟨y,ey,ry⟩:=rl.get e1;have g:Grow J H J (upd H a (.lst ys.dropLast)):=.write ea;exact zZ2 pins s σ H _ _ v us Q I rx rs ⟨a,ys,y,rfl,rfl,eo,by rw[<- rl.length];exact ey,k _ _ (ha.write ea ⟨_,rfl,rl.dropLast⟩) g (Rep.grow g _ _ ry)⟩
  ·cases e
 ·cases e
theorem zL5:MtR X "list.extend" (mOf K DS.zB8):=by
 intro pins s σ H x xs v us Q I rx rs hq34;obtain⟨J,S,d1,ds,d,S',ha,r1,rl,e,k⟩:=hq34;unfold DS.zB8 at e;split at e
 ·rename_i n dv;obtain⟨a,ea,rfl⟩:=r1;obtain⟨c,ec,ob,eo,rc⟩:=ha.at ea;obtain⟨y,rfl,ry⟩:=zC3 (ds:=[]) rl;split at e
  ·cases e
  ·split at e
   ·rename_i l m es em;rw[ec]at es;cases es;obtain⟨ys,rfl,rl'⟩:=rc;obtain⟨b,zs,rfl,hq,q⟩:=zCs ha ry em;split at e
    ·rename_i hz;cases e;cases rx;obtain⟨u,rfl,ru⟩:=rs.one;cases ru;obtain⟨z,its,n,r,hl,e⟩:=I.lstM eo;obtain⟨z2,its2,n2,r2,hl2,e2⟩:=I.lstR hq;have hsz:its.toArray.size+its2.toArray.size<=sizeLine:=by rw[xu,xu,<- hl,<- hl2,<- rl'.length,<- q.length];exact hz
     have hlong:¬ (!its.toArray.isEmpty && Builtin.List.listTooLong (its.toArray.size+its2.toArray.size))=true:=by rw[zR3 hsz,Bool.and_false];exact xV
     refine vM F.slot_list_extend ⟨_,e,rfl⟩ F.entry_list_extend (F.args_list_extend_2 _ _) (AutoSeq1.list_extend_list_list_0 a its.toArray n b its2.toArray n2 hlong (by rw[xu];lia) (by nofun)) ⟨e,e2,?_⟩;exact⟨.non,_,I.lset eo e (by simp) (r.append r2) (by rw[xk,<- rl'.length,<- q.length];exact hz),rfl,k _ _ (ha.write ea ⟨_,rfl,rl'.append q⟩) (.write ea) rfl⟩
    ·cases e
   ·cases e
 ·cases e
theorem zNt{tg:Expr}{pins:List (Addr × Obj)}{s1:Shared}{σ:St}{H1:Hp}{R:It->Hp->Prop}{a:Addr}{xs:List V}(I1:Inv X pins σ H1 s1)(hq:SqL X.K H1 a xs)(q:R (Itl X.K a) H1):wpAny (model X.prog X.w) X.A (pyIter (.ref a)) (PIE X pins σ tg R) X.xe s1:=by
 obtain⟨its,rv,p,hz⟩:=I1.list hq;refine wpAny_pyIter_list p.isList ?_;refine⟨s1.heap.objs.size,[s1.heap.objs.size],_,_,H1,rfl,I1.kept λb o e=>xm _ e,zM9 a _,⟨_,xD _ rfl,rfl,rfl⟩,λb hb=>?_,q⟩;have e:b=s1.heap.objs.size:=by simpa using hb
 subst e;exact I1.fpOk (xh _) (I1.hok.fresh (xh _))
theorem zRe{tg:Expr}{pins:List (Addr × Obj)}{s1:Shared}{σ:St}{H1:Hp}{R:It->Hp->Prop}{a:Addr}{xs:List V}(I1:Inv X pins σ H1 s1)(hq:SqT X.K H1 a xs)(q:R (Itt X.K a) H1):wpAny (model X.prog X.w) X.A (pyIter (.ref a)) (PIE X pins σ tg R) X.xe s1:=by
 obtain⟨its,rv,p,hz⟩:=I1.tuple hq;refine wpAny_pyIter_tuple (p) ?_;refine⟨s1.heap.objs.size,[s1.heap.objs.size],_,_,H1,rfl,I1.kept λb o e=>xm _ e,zKo a _,⟨_,xD _ rfl,rfl,rfl⟩,λb hb=>?_,q⟩;have e:b=s1.heap.objs.size:=by simpa using hb
 subst e;exact I1.fpOk (xh _) (I1.hok.fresh (xh _))
theorem zRf{R:It->Hp->Prop}{z:Str}(I1:Inv X pins σ H1 s1)(ha:z.cps.all (·<128)=true)(q:R (Its z) H1):wpAny (model X.prog X.w) X.A (pyIter (.str z t)) (PIE X pins σ tg R) X.xe s1:=by
 refine wpAny_pyIter_ascii ha ?_;refine⟨s1.heap.objs.size,[s1.heap.objs.size],_,Its z,H1,rfl,I1.kept λb o e=>xm _ e,zPx s1.heap.objs.size z t,⟨vN _,_,xD _ rfl,rfl,rfl⟩,λb hb=>?_,q⟩;have e:b=s1.heap.objs.size:=by simpa using hb
 subst e;exact I1.fpOk (xh _) (I1.hok.fresh (xh _))
theorem stays_list(ha:AbS K J S H)(r:Rep K J H d v)(e:DS.look S d=some (.lst l)):∃a xs,v=.ref a/\SqL K H a xs/\∀J' H' S',Grow J H J' H'->AbS K J' S' H'->DS.gOk S' (DS.gdOf S d)->∃ys,SqL K H' a ys/\RepL K J' H' l ys:=by
 cases d with
 | lst l=>cases e;obtain⟨a,xs,rfl,t,rl⟩:=r;exact⟨a,xs,rfl,t.sq,λJ' H' S' g _ _=>⟨xs,(t.grow g).sq,RepL.grow g _ _ rl⟩⟩
 | klst l=>cases e;obtain⟨a,xs,rfl,t,rl⟩:=r;exact⟨a,xs,rfl,t.sq,λJ' H' S' g _ _=>⟨xs,(t.grow g).sq,RepL.grow g _ _ rl⟩⟩
 | ref n=>
  obtain⟨a,ea,rfl⟩:=r;obtain⟨c,ec,o,eo,rc⟩:=ha.at ea;have e:S[n]?=_:=e;rw[ec]at e;cases e;obtain⟨xs,rfl,rl⟩:=rc;refine⟨a,xs,rfl,.inl (.inl eo),λJ' H' S' g ha' gd=>?_⟩;have e':=gd (n,.lst l) (by simp[DS.gdOf,ec]);obtain⟨o',eo',rc'⟩:=ha'.ob n a _ (g.pre n a ea) e';obtain⟨ys,rfl,rl'⟩:=rc';exact⟨ys,.inl (.inl eo'),rl'⟩
 | _=>cases e
theorem stays_tup(ha:AbS K J S H)(r:Rep K J H d v)(e:DS.look S d=some (.tup l)):∃a xs,v=.ref a/\SqT K H a xs/\∀J' H',Grow J H J' H'->SqT K H' a xs/\RepL K J' H' l xs:=by
 cases d with
 | tup l=>cases e;obtain⟨a,xs,rfl,t,rl⟩:=r;exact⟨a,xs,rfl,t.sq,λJ' H' g=>⟨(t.grow g).sq,RepL.grow g _ _ rl⟩⟩
 | ktup l=>cases e;obtain⟨a,xs,rfl,t,rl⟩:=r;exact⟨a,xs,rfl,t.sq,λJ' H' g=>⟨t.sq,RepL.grow g _ _ rl⟩⟩
 | ref n=>
  obtain⟨a,ea,rfl⟩:=r;obtain⟨c,ec,o,eo,rc⟩:=ha.at ea;have e:S[n]?=_:=e;rw[ec]at e;cases e;exact False.elim rc
 | _=>cases e
theorem zVs{gd:List (Nat × D)}(h:∀J' H' S',Grow J H J' H'->AbS K J' S' H'->DS.gOk S' gd->∃ys,SqL K H' a ys/\RepL K J' H' l ys):ItOk K J H ⟨l,gd⟩ (Itl K a) where
 go:=λi H' J' S' ha g gd hi=>by
  obtain⟨ys,q,rl⟩:=h J' H' S' g ha gd;exact⟨ys,ys[i]'(by rw[<- rl.length];exact hi),q,xo _⟩
 yld:=λi H' J' S' x H'' ha g gd y d ed=>by
  obtain⟨rfl,y⟩:=y;obtain⟨ys,q,rl⟩:=h J' H'' S' g ha gd;obtain⟨x',ex,rx⟩:=rl.get ed;rw[y ys q]at ex;cases ex;exact⟨ha,.refl,rx⟩
 stop:=λi H' J' S' ha g gd hi=>by
  obtain⟨ys,q,rl⟩:=h J' H' S' g ha gd;exact⟨ys,q,by rw[<- rl.length];exact hi⟩
theorem zZi{gd:List (Nat × D)}(h:∀J' H',Grow J H J' H'->SqT K H' a xs/\RepL K J' H' l xs):ItOk K J H ⟨l,gd⟩ (Itt K a) where
 go:=λi H' J' S' ha g gd hi=>by
  obtain⟨q,rl⟩:=h J' H' g;exact⟨xs,xs[i]'(by rw[<- rl.length];exact hi),q,xo _⟩
 yld:=λi H' J' S' x H'' ha g gd y d ed=>by
  obtain⟨rfl,y⟩:=y;obtain⟨q,rl⟩:=h J' H'' g;obtain⟨x',ex,rx⟩:=rl.get ed;rw[y xs q]at ex;cases ex;exact⟨ha,.refl,rx⟩
 stop:=λi H' J' S' ha g gd hi=>by
  obtain⟨q,rl⟩:=h J' H' g;exact⟨xs,q,by rw[<- rl.length];exact hi⟩
theorem zZj :ItOk K J H ⟨DS.chars x,[]⟩ (Its x) where
 go:=λi H' J' S' ha g gd hi=>by
  have:(DS.chars x).length=x.cps.size:=by simp[DS.chars]
  show i<x.cps.size;rw[<- this];exact hi
 yld:=λi H' J' S' y H'' ha g gd yl d ed=>by
  obtain⟨rfl,c,ec,rfl⟩:=yl;have e:(DS.chars x)[i]?=some (D.str ⟨#[c]⟩):=by unfold DS.chars;rw[xO,Array.getElem?_toList,ec];rfl
  rw[e]at ed;cases ed;exact⟨ha,.refl,rfl⟩
 stop:=λi H' J' S' ha g gd hi=>by
  have:(DS.chars x).length=x.cps.size:=by simp[DS.chars]
  show x.cps.size<=i;rw[<- this];exact hi
theorem yAb(he:DE X K E e m)(hK:X.K=K:=by rfl):DI X K E tg e (DS.iVal m):=by
 subst hK;refine⟨⟨λpins s σ H R I hq1=>?_⟩⟩;obtain⟨env,S,J,ha,hE,q⟩:=hq1;refine thn (he.h.h pins s σ H (λx H1=>∃J1 S1 d w,AbS X.K J1 S1 H1/\Rep X.K J1 H1 d x/\DS.zDw S1 d=some w/\∀It,ItOk X.K J1 H1 w It->R It H1) I ⟨env,S,J,ha,hE,q.bind.imp λd S1 J1 H1 _ a1 g1 q1 x rx=>?_⟩) λv s1 hq1=>?_
 ·obtain⟨w,ew,k⟩:=q1.lift;exact⟨J1,S1,d,w,a1,rx,ew,k J1 H1 a1 .refl⟩
 ·obtain⟨x,H1,I1,r1,J1,S1,d,w,a1,rx,ew,k⟩:=hq1;unfold DS.zDw at ew;split at ew
  ·rename_i l el;cases ew;obtain⟨a,xs,rfl,hq,st⟩:=stays_tup a1 rx el;cases r1;exact zRe I1 hq (k _ (zZi st))
  ·rename_i l el;cases ew;obtain⟨a,xs,rfl,hq,st⟩:=stays_list a1 rx el;cases r1;exact zNt I1 hq (k _ (zVs st))
  ·rename_i z ez;split at ew
   ·rename_i hz;cases ew;obtain rfl:=zMf a1 rx ez;obtain⟨t,rfl⟩:=r1;exact zRf I1 hz (k _ zZj)
   ·cases ew
  ·cases ew
theorem zRg{lo:Int}:ItOk K J H ⟨(List.range n).map fun(k:Nat)=>D.int (lo+k),[]⟩ (Itr lo n) where
 go:=λi H' J' S' ha g gd hi=>by show i<n;simpa using hi
 yld:=λi H' J' S' y H'' ha g gd yl d ed=>by
  obtain⟨rfl,rfl⟩:=yl;rw[xO]at ed;by_cases hi:i<n
  ·rw[uX hi]at ed;cases ed;exact⟨ha,.refl,rfl⟩
  ·rw[x6 (by simpa using hi)]at ed;cases ed
 stop:=λi H' J' S' ha g gd hi=>by show n<=i;simpa using hi
theorem fits_of{i:Int}(h:DS.fits62 i=true):-(2 ^ 62)<=i/\i<2 ^ 62:=uO h
theorem zOe(hg:Gl X "range")(hm:X.mg "range"=none)(ha:DA X K E [a] am)(h:nst a=true:=by rfl):DI X K E tg (.Call (.Name "range" p) [a] [] pos) (DS.zBx am):=
 ⟨(qrange1' hg hm ha.h h).imp λσ H R ⟨env,S,J,h,hE,q⟩=>⟨env,S,J,h,hE,q.bind.imp λds S1 J1 H1 e1 a1 g1 q1 xs rx=>by
  obtain⟨w,ew,k⟩:=q1.lift;have hl:=ha.len _ _ _ _ e1
  match ds,hl with
  | [d],_=>
   obtain⟨x,rfl,r⟩:=zC3 (ds:=[]) rx;cases d with
   | int j=>
    unfold DS.zG5 at ew;simp only at ew;by_cases hf:DS.fits62 j=true
    ·rw[xc hf]at ew;cases ew;obtain rfl:=r;refine⟨j,rfl,(fits_of hf).1,(fits_of hf).2,k J1 H1 a1 .refl _ ?_⟩;have e:DS.zFf 0 j=(List.range j.toNat).map fun(k:Nat)=>D.int (0+k):=by unfold DS.zFf;rw[Int.sub_zero]
     rw[e];exact zRg
    ·rw[xf hf]at ew;cases ew
   | _=>cases ew⟩⟩
theorem zLp{p p2 pos pos2:Pos}(hc:X.calm=true)(he:DE X K E e m)(hgl:Gl X "list")(hml:X.mg "list"=none)(hgr:Gl X "reversed")(hmr:X.mg "reversed"=none)(h:nst e=true:=by rfl)(hK:X.K=K:=by rfl):
  DF X K E (.Call (.Name "list" p) [.Call (.Name "reversed" p2) [e] [] pos2] [] pos) (DS.eUn DS.revL m):=by
 subst hK;refine⟨(qlistrev' hc he.h hgl hml hgr hmr h).imp λσ H Q ⟨env,S,J,ha,hE,q⟩=>⟨env,S,J,ha,hE,q.bind.imp λd S1 J1 H1 _ a1 g1 q1 x rx=>?_⟩⟩;obtain⟨c,ec,k⟩:=q1.lift;unfold DS.revL at ec;split at ec
 ·rename_i l el;cases ec;obtain⟨a,xs,rfl,hq,rl⟩:=zFj a1 rx el;exact⟨a,xs,rfl,hq,λp n=>k J1 H1 a1 .refl p _ n ⟨_,rfl,rl.reverse⟩⟩
 ·cases ec
theorem zVq(K:PySem.W.Frag)(hU:U∈DS.kinds)(hT:T∈DS.kinds):PySem.W.kitOne K (.type U) (.type T)=some (DS.zZk U T):=by
 unfold DS.kinds at hU hT;simp only[xr,xJ,xK]at hU hT;rcases hU with rfl|rfl|rfl|rfl|rfl|rfl <;> rcases hT with rfl|rfl|rfl|rfl|rfl|rfl <;> first
  | rfl
  | (unfold PySem.W.kitOne;rfl)
  | (unfold PySem.W.kitOne;simp;rfl)
theorem zPw(ha:AbS K J S H)(r:Rep K J H d v)(h:DS.tyD S d=some U)(hn:∀l,d≠.ktup l)(hn':∀l,d≠.klst l)(hU:U≠"set")(hD:U≠"dict"):TyOf K H v (.type U):=by
 cases d with
 | non=>obtain rfl:=r;cases h;exact .non
 | bl b=>obtain rfl:=r;cases h;exact .bl b
 | int b=>obtain rfl:=r;cases h;exact .int b
 | str b=>obtain rfl:=r;cases h;exact .str b
 | tup l=>obtain⟨a,xs,rfl,t,_⟩:=r;cases h;exact .tup t.1
 | lst l=>
  obtain⟨a,xs,rfl,t,_⟩:=r;cases h;exact .lst t.1
 | dct t ks vs=>
  cases h;exact absurd rfl hD
 | ktup l=>exact absurd rfl (hn l)
 | klst l=>exact absurd rfl (hn' l)
 | ref n=>
  obtain⟨a,ea,rfl⟩:=r;obtain⟨c,ec,o,eo,rc⟩:=ha.at ea;have el:DS.look S (.ref n)=some c:=ec;unfold DS.tyD at h;rw[el]at h;cases c with
  | lst ds=>cases h;obtain⟨xs,rfl,_⟩:=rc;exact .lst eo
  | dct _ ks vs=>
   cases h;exact absurd rfl hD
  | _=>exact False.elim rc
 | st l=>cases h;exact absurd rfl hU
 | ty n=>cases h
theorem zP5(hK:X.K=K:=by rfl):zB9 X (.builtin "isinstance") (cOf K DS.isiB):=by
 subst hK;intro pins s σ H xs us Q I r hq35;obtain⟨J,S,ds,d,ha,rl,e,k⟩:=hq35;unfold DS.isiB at e;split at e
 ·rename_i d0 T;obtain⟨x,y,rfl,rx,ry⟩:=zFt rl;obtain rfl:=ry;split at e
  ·cases e
  ·cases e
  ·rename_i n1 n2;cases e1:DS.tyD S d0 with
   | none=>rw[e1]at e;cases e
   | some U=>
    rw[e1]at e;simp only at e;split at e
    ·rename_i h;cases e;have hs:U≠"set":=λz=>by subst z;exact absurd h.1 (by decide)
     exact zS1 _ pins s σ H _ us Q I r ⟨x,_,rfl,zPw ha rx e1 (λl z=>n1 l z) (λl z=>n2 l z) hs (λz=>by have h1:=h.1;rw[z]at h1;exact absurd h1 (by decide)),zVq _ h.1 h.2,k _ H ha .refl rfl⟩
    ·cases e
 ·cases e
end
theorem len0{α:Type}:∀{l:List α},l.length=0->l=[]
 | [],_=>rfl
 | _::_,h=>nomatch h
theorem lenS{α:Type}{n:Nat}{l:List α}(h:l.length=n+1):∃a r,l=a::r/\r.length=n:=by
 cases l with
 | nil=>cases h
 | cons a r=>exact⟨a,r,rfl,Nat.succ.inj h⟩
theorem len1{α:Type}{l:List α}(h:l.length=1):∃a,l=[a]:=by obtain⟨a,r,e,q⟩:=lenS h;exact⟨a,by rw[e,len0 q]⟩
theorem len2{α:Type}{l:List α}(h:l.length=2):∃a b,l=[a,b]:=by obtain⟨a,r,e,q⟩:=lenS h;obtain⟨b,e2⟩:=len1 q;exact⟨a,b,by rw[e,e2]⟩
theorem len3{α:Type}{l:List α}(h:l.length=3):∃a b c,l=[a,b,c]:=by obtain⟨a,r,e,q⟩:=lenS h;obtain⟨b,c,e2⟩:=len2 q;exact⟨a,b,c,by rw[e,e2]⟩
theorem len4{α:Type}{l:List α}(h:l.length=4):∃a b c d,l=[a,b,c,d]:=by obtain⟨a,r,e,q⟩:=lenS h;obtain⟨b,c,d,e2⟩:=len3 q;exact⟨a,b,c,d,by rw[e,e2]⟩
theorem len5{α:Type}{l:List α}(h:l.length=5):∃a b c d e,l=[a,b,c,d,e]:=by obtain⟨a,r,e1,q⟩:=lenS h;obtain⟨b,c,d,e,e2⟩:=len4 q;exact⟨a,b,c,d,e,by rw[e1,e2]⟩
theorem zMj{K:PySem.W.Frag}{F:DS.Fn}{H:Hp}{a:Addr}{ns:List Int}{XX:XK}(h:∃S,F [.klst (ns.map D.int)] []=.ok (.bl true) S)(hS:SqL K H a (ns.map V.int))(hT:TabsOk K H):spOf K XE0 F [.ref a] H (λv _=>v=.bl true) XX:=by
 obtain⟨S,e⟩:=h;refine⟨[],[],[.klst (ns.map D.int)],⟨rfl,hT,List.nodup_nil,λi a d e _=>by simp at e⟩,⟨.ref a,[],rfl,⟨a,ns.map V.int,rfl,?_,.ints⟩,rfl⟩,?_⟩
 ·rcases hS with h|h
  ·exact .inl ⟨h,by simp⟩
  ·exact .inr h
 ·rw[e];exact λJ' H' _ _ v r=>r
end L2
namespace EK
open PySem
open DS (D)
inductive A2 {α β:Type}(R:α->β->Prop):List α->List β->Prop where
 | nil:A2 R [] []
 | cons {a:α}{b:β}{l:List α}{m:List β}:R a b->A2 R l m->A2 R (a::l) (b::m)
theorem A2.length{α β:Type}{R:α->β->Prop}{l:List α}{m:List β}(h:A2 R l m):l.length=m.length:=by
 induction h with
 | nil=>rfl
 | cons _ _ ih=>simp[ih]
def Ek(h:Heap):Nat->D->Value->Prop
 | 0,d,v=>∃i t,d=.int i/\v=.int i t
 | n+1,d,v=>∃ds a o items k,d=.tup ds/\v=.ref a/\h.get? a=some o/\o.cls=.type "tuple"/\o.data=.seq items k/\A2 (Ek h n) ds items.toList
theorem A2.inj{α β:Type}{R R':α->β->Prop}{l l':List α}{m:List β}(h:A2 R l m)(h':A2 R' l' m)(k:∀a a' b,R a b->R' a' b->a=a'):l=l':=by
 induction h generalizing l' with
 | nil=>cases h';rfl
 | cons h _ ih=>
  cases h' with
  | cons q r=>rw[k _ _ _ h q,ih r]
theorem Ek.inj :∀{n:Nat}{d d':D}{v:Value},Ek h n d v->Ek h n d' v->d=d'
 | 0,_,_,_,⟨i,t,e1,e2⟩,⟨j,u,e3,e4⟩=>by subst e1 e2 e3;cases e4;rfl
 | n+1,_,_,_,⟨ds,a,o,items,k,e1,e2,h1,h2,h3,r⟩,⟨ds',a',o',items',k',e1',e2',h1',h2',h3',r'⟩=>by
  subst e1 e2 e1';cases e2';obtain rfl:o=o':=xB (h1.symm.trans h1');rw[h3]at h3';injection h3' with q _
  subst q;rw[r.inj r' λ_ _ _ x y=>Ek.inj x y]
mutual
def hD:D->Int
 | .int i=>hashInt i
 | .tup l=>reduceHash (Builtin.Tuple.tupleHashOf (hL l))
 | _=>0
def hL:List D->List Int
 | []=>[]
 | d::r=>hD d::hL r
end
section
variable {prog:Program}{w:World}{s:Shared}
theorem Ek.typeIs{n:Nat}(h:Ek s.heap (n+1) d (.ref a)):s.TypeIs (.ref a) "tuple":=by obtain⟨ds,a',o,items,k,e1,e2,h1,h2,h3,r⟩:=h;cases e2;exact⟨o,h1,h2⟩
open Classical in
theorem zRr:∀(n:Nat) {d d':D}{v v':Value}{A:Around}{E:Value->Shared->Prop}{s:Shared}{Q:Bool->Shared->Prop},Ek s.heap n d v->Ek s.heap n d' v'->A.units+n<cLine->Q (decide (d=d')) s->wpAny (model prog w) A (eqBool v v') Q E s
 | 0,_,_,_,_,A,E,s,Q,⟨i,t,e1,e2⟩,⟨j,u,e3,e4⟩,_,h=>by
  subst e1 e2 e3 e4;refine wpAny_eqBool_int ?_;have:(i == j)=decide (D.int i=D.int j):=by
   by_cases q:i=j
   ·subst q;simp
   ·rw[xi (λz=>q (by cases z;rfl))];simpa using q
  rw[this];exact h
 | n+1,_,_,_,_,A,E,s,Q,hx,hy,hu,h=>by
  have hx0:=hx;have hy0:=hy;obtain⟨ds,a,oa,xs,ka,rfl,rfl,hoa,hca,hda,ra⟩:=hx;obtain⟨es,b,ob,ys,kb,rfl,rfl,hob,hcb,hdb,rb⟩:=hy;unfold eqBool
  try with_reducible refine xS ?_
  show wpAny _ _ (if(Value.ref a == Value.ref b)=true then _ else _) Q E s;by_cases hab:(Value.ref a == Value.ref b)=true
  ·rw[xc hab];have e:a=b:=by have:=eq_of_beq hab;injection this
   subst e;have e2:=hx0.inj hy0;rw[xj e2]at h;exact xa (wpAny_rule (xg h))
  ·rw[xf hab]
   suffices hc:wpAny (model prog w) A (call (.builtin "tuple.__eq__") [.ref a,.ref b]) (λv s'=>v=.bool (decide (D.tup ds=D.tup es))/\s'=s) E s from
    xa (wpAny_richCompare_same_room hx0.typeIs hy0.typeIs F.slot_tuple_eq (vd hc (λv s' q=>by
     obtain⟨rfl,rfl⟩:=q;exact⟨(λe=>nomatch e),vK h⟩) λ_ _ x=>x) (by nofun))
   refine vA F.slot_tuple_eq hx0.typeIs F.entry_tuple_eq ?_ (F.args_tuple_eq_2 _ _);have fin:∀c:Bool,c=decide (D.tup ds=D.tup es)->∃v,(PySem.Fin.done (.ret (.bool c)):PySem.Fin)=.done (.ret v)/\v=.bool (decide (D.tup ds=D.tup es))/\s=s:=λc hc=>⟨_,rfl,by rw[hc],rfl⟩
   show wpAny _ _ (isInstance (.ref b) (.type "tuple") >>= _) _ _ s;refine xa (uF hy0.typeIs isSubtype_tuple_tuple ?_);simp only[Bool.not_true,vi,xZ];refine xa (wpAny_tupleItemsOf hoa hda (xa (wpAny_tupleItemsOf hob hdb (xa ?_))));refine wpAny_forIn_list _ (λrest r s'=>r.1=none/\s'=s/\∃(x' y':List D) (xs' ys':List Value),rest=List.zip xs' ys'/\A2 (Ek s.heap n) x' xs'/\A2 (Ek s.heap n) y' ys'/\(x'=y' <-> ds=es)/\(xs'.length == ys'.length)=(xs.size == ys.size)) _ ?_ ?_ _ _ ⟨rfl,rfl,ds,es,xs.toList,ys.toList,rfl,ra,rb,Iff.rfl,by simp⟩
   ·rintro⟨u,v⟩ rest r s' ⟨hr,rfl,x',y',xs',ys',hz,hx',hy',hdec,hlen⟩;cases hx' with
    | nil=>simp at hz
    | @cons k1 u' x'' xs'' h1 hx''=>
     cases hy' with
     | nil=>simp at hz
     | @cons k2 v' y'' ys'' h2 hy''=>
      simp only[List.zip_cons_cons,List.cons.injEq,Prod.mk.injEq]at hz;obtain⟨⟨rfl,rfl⟩,rfl⟩:=hz;refine xa (zRr n h1 h2 (by show A.units+1+n<cLine;lia) ?_);by_cases hk:k1=k2
      ·subst hk;rw[xj rfl];simp only[Bool.not_true,vi,xZ];refine xg ⟨rfl,rfl,x'',y'',xs'',ys'',rfl,hx'',hy'',?_,by simpa using hlen⟩;rw[<- hdec];simp
      ·rw[xi hk];simp only[Bool.not_false,xW];have hf:¬ ds=es:=λz=>hk (by have:=hdec.mpr z;cases this;rfl)
       exact xa (xg (xg (xg (fin false (by rw[xi];intro z;cases z;exact hf rfl)))))
   ·rintro⟨r1,r2⟩ s' ⟨hr,rfl,x',y',xs',ys',hz,hx',hy',hdec,hlen⟩;simp only at hr;subst hr;refine xg ?_;have hfin:(xs.size == ys.size)=decide (D.tup ds=D.tup es):=by
     have e3:decide (D.tup ds=D.tup es)=decide (x'=y'):=vc.mpr (by rw[D.tup.injEq];exact hdec.symm);rw[e3,<- hlen];cases hx' with
     | nil=>
      cases hy' with
      | nil=>simp
      | cons _ _=>simp
     | cons _ _=>
      cases hy' with
      | nil=>simp
      | cons _ _=>simp at hz
    exact fin _ hfin
end
end EK
namespace DS
open PySem (Str)
section
open Classical
mutual
def blt:D->D->Bool
 | .int a,.int b=>decide (a<b)
 | .tup l,.tup m=>bltL l m
 | _,_=>false
def bltL:List D->List D->Bool
 | [],[]=>false
 | [],_::_=>true
 | _::_,[]=>false
 | a::r,b::t=>if a=b then bltL r t else blt a b
end
def lv:Nat->D->Prop
 | 0,d=>∃i,d=.int i
 | n+1,d=>∃l,d=.tup l/\∀x∈l,lv n x
theorem zHy(a b:D)(r t:List D):bltL (a::r) (b::t)=if a=b then bltL r t else blt a b:=by rw[bltL]
end
end DS
namespace EK
open PySem PyProof.Rows PySem.W
open DS (D blt bltL zHy)
open Classical
section
variable {prog:Program}{w:World}
theorem zLl{n:Nat}(ih:∀{d d':D}{v v':Value}{A:Around}{E:Value->Shared->Prop}{s:Shared}{Q:Value->Shared->Prop},Ek s.heap n d v->Ek s.heap n d' v'->A.units+n<cLine->Q (.bool (blt d d')) s->wpAny (model prog w) A (richCompare .Lt v v') Q E s)
  {d d':D}{a b:Addr}{A:Around}{E:Value->Shared->Prop}{s:Shared}{Q:Value->Shared->Prop}(hx:Ek s.heap (n+1) d (.ref a)) (hy:Ek s.heap (n+1) d' (.ref b)) (hu:A.units+(n+1)<cLine) (h:Q (.bool (blt d d')) s):wpAny (model prog w) A (call (.builtin "tuple.__lt__") [.ref a,.ref b]) Q E s:=by
 have hx0:=hx;have hy0:=hy;obtain⟨ds,a',oa,xs,ka,rfl,ea,hoa,hca,hda,ra⟩:=hx;cases ea;obtain⟨es,b',ob,ys,kb,rfl,eb,hob,hcb,hdb,rb⟩:=hy;cases eb;refine vA PySem.F.slot_tuple_lt hx0.typeIs PySem.F.entry_tuple_lt ?_ (PySem.F.args_tuple_lt_2 _ _);rw[blt]at h;show wpAny _ _ (isInstance (.ref b) (.type "tuple") >>= _) _ _ s;refine xa (uF hy0.typeIs isSubtype_tuple_tuple ?_);simp only[Bool.not_true,vi,xZ];refine xa (wpAny_tupleItemsOf hoa hda (xa (wpAny_tupleItemsOf hob hdb (xa ?_))));refine wpAny_forIn_list _ (λrest r s'=>r.1=none/\s'=s/\∃(x' y':List D) (xs' ys':List Value),rest=List.zip xs' ys'/\A2 (Ek s.heap n) x' xs'/\A2 (Ek s.heap n) y' ys'/\bltL x' y'=bltL ds es/\decide (xs'.length<ys'.length)=decide (xs.size<ys.size)) _ ?_ ?_ _ _ ⟨rfl,rfl,ds,es,xs.toList,ys.toList,rfl,ra,rb,rfl,by simp⟩
 ·rintro⟨u,v⟩ rest r s' ⟨hr,rfl,x',y',xs',ys',hz,hx',hy',hdec,hlen⟩;cases hx' with
  | nil=>simp at hz
  | @cons k1 u' x'' xs'' h1 hx''=>
   cases hy' with
   | nil=>simp at hz
   | @cons k2 v' y'' ys'' h2 hy''=>
    simp only[List.zip_cons_cons,List.cons.injEq,Prod.mk.injEq]at hz;obtain⟨⟨rfl,rfl⟩,rfl⟩:=hz;refine xa (zRr n h1 h2 (by show A.units+1+n<cLine;lia) ?_);rw[zHy]at hdec;by_cases hk:k1=k2
    ·subst hk;rw[xc rfl]at hdec;rw[xj rfl];simp only[Bool.not_true,vi,xZ];exact xg ⟨rfl,rfl,x'',y'',xs'',ys'',rfl,hx'',hy'',hdec,by simpa using hlen⟩
    ·rw[xf hk]at hdec;rw[xi hk];simp only[Bool.not_false,xW];refine xa (wpAny_rule (xa (ih h1 h2 (by show A.units+1+n<cLine;lia) ?_)));refine xa (xg (xg (xg ⟨_,rfl,?_⟩)));rw[hdec];exact h
 ·rintro⟨r1,r2⟩ s' ⟨hr,rfl,x',y',xs',ys',hz,hx',hy',hdec,hlen⟩;simp only at hr;subst hr;have hfin:bltL ds es=decide (xs.size<ys.size):=by
   rw[<- hdec,<- hlen];cases hx' with
   | nil=>
    cases hy' with
    | nil=>rw[bltL];rfl
    | cons _ _=>rw[bltL];simp
   | cons _ _=>
    cases hy' with
    | nil=>rw[bltL];simp
    | cons _ _=>simp at hz
  rw[hfin]at h;exact xg ⟨_,rfl,h⟩
theorem zZv:∀(n:Nat) {d d':D}{v v':Value}{A:Around}{E:Value->Shared->Prop}{s:Shared}{Q:Value->Shared->Prop},Ek s.heap n d v->Ek s.heap n d' v'->A.units+n<cLine->Q (.bool (blt d d')) s->wpAny (model prog w) A (richCompare .Lt v v') Q E s
 | 0,_,_,_,_,A,E,s,Q,⟨i,t,e1,e2⟩,⟨j,u,e3,e4⟩,_,h=>by
  subst e1 e2 e3 e4;rw[blt]at h;exact(lt_int h:wpAny (model prog w) A (compareOp .Lt (.int i t) (.int j u)) Q E s)
 | n+1,_,_,_,_,A,E,s,Q,hx,hy,hu,h=>by
  have hx0:=hx;have hy0:=hy;obtain⟨ds,a,oa,xs,ka,rfl,rfl,hoa,hca,hda,ra⟩:=hx;obtain⟨es,b,ob,ys,kb,rfl,rfl,hob,hcb,hdb,rb⟩:=hy;exact wpAny_richCompare_same_room hx0.typeIs hy0.typeIs PySem.F.slot_tuple_lt (zLl (λ{d d' v v' A E s Q}=>zZv n) hx0 hy0 hu ⟨(λe=>nomatch e),h⟩) (by nofun)
end
end EK
namespace DS
open PySem (Str)
section
open Classical
noncomputable def ltN (S:Store) (x y:D):Option D:=match x,y with
 | .int a,.int b=>some (.bl (decide (a<b)))
 | .str a,.str b=>some (.bl (decide (a.cps.toList<b.cps.toList)))
 | .tup l,.tup m=>if ∃n,n+1<=6/\lv (n+1) (.tup l)/\lv (n+1) (.tup m)then some (.bl (blt (.tup l) (.tup m)))else none
 | _,_=>none
noncomputable def intB (_:Store):List D->Option D
 | [.int i]=>some (.int i)
 | [.bl b]=>some (.int (if b then 1 else 0))
 | _=>none
noncomputable def revS (S:Store) (x:D):Option D:=match x with
 | .tup l=>some (.tup l.reverse)
 | x=>match look S x with
  | some (.lst l)=>some (.lst l.reverse)
  | _=>none
end
end DS
namespace L2
open PySem PySem.Spec PyProof.Rows EK
open DS (D Store Exn Rs SR lv)
section
variable {X:Cx}{K:PySem.W.Frag}{E:XE}{J:Js}{S:Store}{H:Hp}{d d1 d2:D}{v:V}{pins:List (Addr × Obj)}{σ:St}{s:Shared}
theorem zLk(I:Inv X pins σ H s):∀(n:Nat) {d:D}{v:V}{u:Value},lv n d->Rep K J H d v->RelV v u->Ek s.heap n d u
 | 0,_,v,u,⟨i,e⟩,r,q=>by
  subst e;obtain rfl:v=.int i:=r;obtain⟨t,rfl⟩:=q;exact⟨i,t,rfl,rfl⟩
 | n+1,_,v,u,⟨l,e,hl⟩,r,q=>by
  subst e;obtain⟨a,xs,rfl,t,rl⟩:=r;cases q;obtain⟨_,its,rv,o,ho,hc,k,hd⟩:=(I.hok _ _ t.1);refine⟨l,a,o,_,k,rfl,rfl,ho,hc,hd,?_⟩;have go:∀(l:List D) (xs:List V) (its:List Value),(∀x∈l,lv n x)->RepL K J H l xs->Vals xs its->A2 (Ek s.heap n) l its:=by
   intro l;induction l with
   | nil=>intro xs its _ rl rv;obtain rfl:xs=[]:=rl;cases rv;exact .nil
   | cons d l ih=>
    intro xs its hl rl rv;obtain⟨x,r,rfl,h,rl⟩:=rl;cases rv with
    | cons q rv=>exact .cons (zLk I n (hl d (.head _)) h q) (ih _ _ (λy hy=>hl y (.tail _ hy)) rl rv)
  simpa using go l xs its hl rl rv
theorem zO8(I:Inv X pins σ H s){n:Nat}:∀{l:List D}{xs:List V}{us:List Value},(∀x∈l,lv n x)->RepL K J H l xs->Vals xs us->A2 (Ek s.heap n) l us
 | [],xs,us,_,rl,rv=>by obtain rfl:xs=[]:=rl;cases rv;exact .nil
 | d::l,_,_,hl,⟨x,r,e,h,rl⟩,rv=>by
  subst e;cases rv with
  | cons q rv=>exact .cons (zLk I n (hl d (.head _)) h q) (zO8 I (λy hy=>hl y (.tail _ hy)) rl rv)
theorem zV7(hu:X.A.units+64<cLine):OpR X (compareOp .Lt) (r2Of K DS.ltN):=by
 intro pins s σ H x y a b Q I rx ry hq36;obtain⟨J,S,d1,d2,d,ha,r1,r2,e,k⟩:=hq36;unfold DS.ltN at e;split at e
 ·cases e;obtain rfl:=r1;obtain rfl:=r2;exact yBn pins s σ H _ _ a b Q I rx ry ⟨_,_,rfl,rfl,k _ H ha .refl rfl⟩
 ·cases e;obtain rfl:=r1;obtain rfl:=r2;exact zN4 pins s σ H _ _ a b Q I rx ry ⟨_,_,rfl,rfl,k _ H ha .refl rfl⟩
 ·split at e
  ·rename_i hs;cases e;obtain⟨n,hn,h1,h2⟩:=hs;have q1:=zLk I (n+1) h1 r1 rx;have q2:=zLk I (n+1) h2 r2 ry;exact(zZv (n+1) q1 q2 (by nofun) ⟨.bl (DS.blt (.tup _) (.tup _)),H,I,rfl,k _ H ha .refl rfl⟩:wpAny (model X.prog X.w) X.A (richCompare .Lt a b) (EP X pins σ Q) X.xe s)
  ·cases e
 ·cases e
theorem zP7:zB9 X (.type "int") (cOf K DS.intB):=by
 intro pins s σ H xs us Q I r hq37;obtain⟨J,S,ds,d,ha,rl,e,k⟩:=hq37;unfold DS.intB at e;split at e
 ·cases e;obtain⟨x,rfl,rx⟩:=zC3 (ds:=[]) rl;obtain rfl:=rx;exact zHo pins s σ H _ us Q I r (.inl ⟨_,rfl,k _ H ha .refl rfl⟩)
 ·cases e;obtain⟨x,rfl,rx⟩:=zC3 (ds:=[]) rl;obtain rfl:=rx;exact zHo pins s σ H _ us Q I r (.inr ⟨_,rfl,k _ H ha .refl rfl⟩)
 ·cases e
theorem zFd(xs:List Value)(i:Nat)(hi:i<xs.length):xs[((xs.length:Int)-1+-1*(i:Int)).toNat]?=xs.reverse[i]?:=by rw[List.getElem?_reverse hi];congr 1;lia
theorem zFe(xs:List Value)(f:Nat->Option Value)(hf:∀i,i<xs.length->f i=xs[i]?):(List.range xs.length).filterMap f=xs:=by
 have:∀n,n<=xs.length->(List.range n).filterMap f=xs.take n:=by
  intro n;induction n with
  | zero=>intro _;rfl
  | succ n ih=>
   intro hn;rw[List.range_succ,List.filterMap_append,ih (by nofun),List.take_add_one];rw[xo (by nofun)];have e:f n=some (xs[n]'(by nofun)):=by rw[hf n (by nofun),xo (by nofun)]
   simp[e]
 rw[this _ (xh _),List.take_length]
theorem zQm(xs:List Value):slicePick xs.toArray none none (some (-1))=xs.reverse.toArray:=by
 unfold slicePick;have e1:(sliceBounds none none (some (-1)) xs.toArray.size).1=(xs.length:Int)-1:=by simp[sliceBounds]
 have e2:(sliceBounds none none (some (-1)) xs.toArray.size).2.1=-1:=by simp[sliceBounds]
 have e3:(sliceBounds none none (some (-1)) xs.toArray.size).2.2=-1:=by simp[sliceBounds]
 rw[e1,e2,e3];unfold sliceRange;have ec:(if(-1:Int) > 0 then(if(xs.length:Int)-1 < -1 then(-1-((xs.length:Int)-1)+-1-1) / -1 else 0)else(if(xs.length:Int)-1 > -1 then((xs.length:Int)-1 - -1 - -1-1) / (- -1)else 0)).toNat=xs.reverse.length:=by rw[vS,xf (by nofun),show(- -1:Int)=1 by decide,Int.ediv_one];split <;> lia
 dsimp only;rw[ec,List.filterMap_map];congr 1;refine zFe _ _ λi hi=>?_
 show xs.toArray[((xs.length:Int)-1+-1*(i:Int)).toNat]?=_;rw[List.getElem?_toArray];exact zFd xs i (by simpa using hi)
end
section
variable {prog:Program}{w:World}{A:Around}{E:Value->Shared->Prop}{s:Shared}
theorem zJe{n:Nat}{Q:Int × Int × Nat->Shared->Prop}(hs:s.heap.IsSliceOf sl .none .none (.int (-1) t))(h:Q ((n:Int)-1,-1,n) s):wpAny (model prog w) A (Builtin.Slice.sliceApplied (.ref sl) (pure (n:Int))) Q E s:=by
 obtain⟨os,hos,hcs,hds⟩:=id hs;unfold Builtin.Slice.sliceApplied Builtin.Slice.sliceFields;refine xa (xa (xF hos hds rfl (xa (xF hos hds rfl (xa (xF hos hds rfl (xg (xa (HT.slicePart_ (.int (-1) t) ?_)))))))));refine(?_);rw[xf (by decide)];refine xa (HT.slicePart_ .none (xa (HT.slicePart_ .none (xa (xg ?_)))));have e:Builtin.Slice.sliceAdjust none none (-1) (n:Int)=((n:Int)-1,-1):=by simp[Builtin.Slice.sliceAdjust]
 have e2:Builtin.Slice.slicePlaces ((n:Int)-1) (-1) (-1)=n:=by unfold Builtin.Slice.slicePlaces;rw[xf (by decide),show(- -1:Int)=1 by decide,Int.ediv_one];split <;> lia
 refine(show wpAny _ _ (match Builtin.Slice.sliceAdjust none none (-1) (n:Int)with|(lo,hi)=>pure (lo,(-1:Int),Builtin.Slice.slicePlaces lo hi (-1))) _ _ s from ?_);rw[e];dsimp only;rw[e2];exact xg h
theorem zDs{its:List Value}{Q:Value->Shared->Prop}(ht:IsTup s.heap t its.toArray)(hs:s.heap.IsSliceOf sl .none .none (.int (-1) tk))(h:Q (.ref s.heap.objs.size) { s with heap:=s.heap.push { cls:=.type "tuple",data:=.seq its.reverse.toArray } })(hz:its.length<=sizeLine):
  wpAny (model prog w) A (getItem (.ref t) (.ref sl)) Q E s:=by
 have htake:sizeOk (.seq its.reverse.toArray):=by show its.reverse.toArray.size<=sizeLine;simpa using hz
 obtain⟨os,hos,hcs,hds⟩:=id hs;have hTs:s.TypeIs (.ref sl) "slice":=⟨os,hos,hcs⟩;unfold getItem
 try with_reducible refine xS ?_
 first|refine xa (xg ?_)|skip
 refine xa (wpAny_sequenceKey ht.typeIs (by decide) (xa (vD ht.typeIs vE (vA vE ht.typeIs entry_tuple_getitem ?_ (args_tuple_getitem _ _)))));refine(show wpAny _ _ (Builtin.Tuple.tupleItemsOf (.ref t) >>= _) _ _ s from xa (tupleItemsOf_ ht (xa (v7 hTs ?_))));rw[xc (by decide)];refine xa (zJe hs ?_);refine(show wpAny _ _ (if(((its.toArray.size:Int)-1 == 0 && (-1:Int) == 1) && its.toArray.size == its.toArray.size)=true then _ else _) _ _ s from ?_);rw[xf (by simp)];have e:((List.range its.toArray.size).filterMap fun(k:Nat)=>its.toArray[(((its.toArray.size:Nat):Int)-1+(k:Int)*(-1)).toNat]?)=its.reverse:=by
  have hl:its.toArray.size=its.reverse.length:=by simp
  rw[hl];refine zFe _ _ λi hi=>?_
  rw[List.getElem?_toArray,<- zFd its i (by simpa using hi)];congr 2;simp
 rw[e];first
  | exact xa (vq (xg ⟨_,rfl,xg h⟩) htake)
  | exact xa (vq (xa (xg (xg ⟨_,rfl,xg h⟩))) htake)
  | exact xa (xa (vq (xg (xg ⟨_,rfl,xg h⟩)) htake))
  | exact xa (xa (vq (xg ⟨_,rfl,xg h⟩) htake))
end
section
variable {X:Cx}{K:PySem.W.Frag}{E:XE}{e:Expr}{m:DS.EM}{p2 pos:Pos}
theorem yAi{m2:DS.EM}(he:DE X K E e m)(h2:DE X K E stp m2)(e2:∀env S,m2 env S=.ok (.int (-1)) S:=by intros;rfl)(hK:X.K=K:=by rfl):DE X K E (.Subscript e (.Slice none none (some stp) p2) pos) (DS.eUn DS.revS m):=by
 subst hK;refine⟨⟨λpins s σ H Q I hq1=>?_⟩⟩;obtain⟨env,S,J,ha,hE,q⟩:=hq1;refine Subscript_ (thn (he.h.h pins s σ H (λx H1=>∃J1 S1 d0 d,AbS X.K J1 S1 H1/\RepE X.K J1 H1 env σ/\Rep X.K J1 H1 d0 x/\DS.revS S1 d0=some d/\∀v H',AbS X.K J1 S1 H'->Grow J1 H1 J1 H'->Rep X.K J1 H' d v->Q v H') I ⟨env,S,J,ha,hE,q.bind.imp λd0 S1 J1 H1 _ a1 g1 q1 x rx=>?_⟩) λv s1 hq1=>?_)
 ·obtain⟨c,ec,k⟩:=q1.lift;exact⟨J1,S1,d0,c,a1,hE.grow g1,rx,ec,λv H' h1 h2 h3=>k J1 H' h1 h2 v h3⟩
 ·obtain⟨x,H1,I1,r1,J1,S1,d0,d,a1,hE1,rx,ed,k⟩:=hq1;have n1:∀(s:Shared) (R:Value->Shared->Prop),R .none s->wpAny (model X.prog X.w) X.A (evalPart none X.env) R X.xe s:=λs R h=>by rw[evalPart_none];exact xg h
  refine wpAny_Slice (n1 _ _ (n1 _ _ ?_));rw[evalPart_some];refine thn (h2.h.h pins s1 σ H1 (λy H2=>y=.int (-1)/\H2=H2/\∃g:Grow J1 H1 J1 H2,AbS X.K J1 S1 H2) I1 ⟨env,S1,J1,a1,hE1,?_⟩) λu s2 hq1=>?_
  ·rw[e2];exact λJ' H' h1 g v rv=>⟨rv,rfl,by
    have ej:J'=J1:=by have:=g.take a1;rw[<- h1.len]at this;simpa using this
    subst ej;exact⟨g,h1⟩⟩
  obtain⟨y,H2,I2,r2,ey,_,g2,a2⟩:=hq1;subst ey;obtain⟨t,rfl⟩:=r2;have I4:Inv X pins σ H2 { s2 with heap:=s2.heap.push { cls:=.type "slice",data:=.fields #[.none,.none,.int (-1) t] } }:=I2.kept λb ob q=>xm _ q
  have hs:(s2.heap.push { cls:=.type "slice",data:=.fields #[.none,.none,.int (-1) t] }).IsSliceOf s2.heap.objs.size .none .none (.int (-1) t):=Heap.IsSliceOf.new ..;have rx2:=Rep.grow g2 _ _ rx;have k2:∀v H',AbS X.K J1 S1 H'->Grow J1 H2 J1 H'->Rep X.K J1 H' d v->Q v H':=λv H' h1 h2 h3=>k v H' h1 (g2.trans h2) h3
  refine(?_);unfold DS.revS at ed;split at ed
  ·rename_i l;cases ed;obtain⟨a,xs,rfl,ta,rl⟩:=rx2;cases r1;obtain⟨its,r,ht,hz⟩:=I4.tuple ta.sq;refine tail_any ht.typeIs vE.lookup (zDs ht hs ?_ (by rw[<- Vals.length r];exact hz)) (by with_unfolding_all rfl);refine⟨.ref _,_,I4.laid (o:=.tup xs.reverse) (λb ob q=>xm _ q) (xh _) ⟨by rw[vS];exact hz,_,r.reverse,IsTup.new _ _⟩,rfl,k2 _ _ (a2.push (I4.hok.fresh (xh _))) (.push (I4.hok.fresh (xh _))) ⟨_,_,rfl,⟨zAb,a2.out (I4.hok.fresh (xh _))⟩,(RepL.grow (.push (I4.hok.fresh (xh _))) _ _ rl).reverse⟩⟩
  ·split at ed
   ·rename_i l el;cases ed;obtain⟨a,xs,rfl,hq,rl⟩:=zFj a2 rx2 el;cases r1;obtain⟨its,r,ht,hz⟩:=I4.list hq;refine tail_any ht.isList.typeIs slot_list_getitem.lookup (wpAny_getItem_list_slice ht.isList hs .none .none (.int (-1) t) (by simp) ?_ (by rw[xu,<- Vals.length r];exact hz)) (by with_unfolding_all rfl);rw[zQm];refine⟨.ref _,_,I4.laid (o:=.lst xs.reverse) (λb ob q=>xm _ q) (xh _) ⟨by rw[vS];exact hz,_,0,r.reverse,xD _ rfl⟩,rfl,k2 _ _ (a2.push (I4.hok.fresh (xh _))) (.push (I4.hok.fresh (xh _))) ⟨_,_,rfl,⟨zAb,a2.out (I4.hok.fresh (xh _))⟩,(RepL.grow (.push (I4.hok.fresh (xh _))) _ _ rl).reverse⟩⟩
   ·cases ed
end
end L2
namespace DS
section
open Classical
noncomputable def trk (S:Store):D->Option (Bool × List D)
 | .tup l=>some (true,l)
 | .lst l=>some (false,l)
 | .ref n=>match S[n]? with
  | some (.lst l)=>some (false,l)
  | _=>none
 | _=>none
noncomputable def zipT (S:Store):List D->Option D
 | [a,b]=>match trk S a,trk S b with
  | some (_,l),some (_,m)=>some (.lst ((l.zip m).map λp=>.tup [p.1,p.2]))
  | _,_=>none
 | _=>none
end
end DS
namespace L2
open PySem PySem.Spec PyProof.Rows
open DS (D Store Exn Rs SR)
noncomputable def locB (o:Option NameKind):Bool:=o == some .local || o == some .cell
noncomputable def visB (o:Option NameKind):Bool:=locB o || o == some .free
theorem zK0(h:locB o=true):o=some .local\/o=some .cell:=by simpa[locB]using h
theorem zFs(h:visB o=true):o=some .local\/o=some .cell\/o=some .free:=by simpa[visB,locB,or_assoc]using h
noncomputable def ndB:List Str->Bool
 | []=>true
 | x::r=>!(r.contains x) && ndB r
theorem zG6:∀{l:List Str},ndB l=true->l.Nodup
 | [],_=>List.nodup_nil
 | x::r,h=>by
  simp only[ndB,xl,vQ,List.contains_eq_mem,decide_eq_false_iff_not]at h;exact vR.mpr ⟨h.1,zG6 h.2⟩
noncomputable def varB (X:Cx) (i:Nat) (x:Str):Bool:=X.N[i]? == some x && (visB (X.env.scope.names.lookup x) && (!(x == ("__debug__":Str)) && !(x == ("__classdict__":Str))))
noncomputable def setB (X:Cx) (j:Nat) (x:Str):Bool:=ndB X.N && (X.N[j]? == some x && (locB (X.env.scope.names.lookup x) && (X.fn x || X.env.scope.names.lookup x == some .local)))
noncomputable def tgN:Expr->List Str
 | .Name x _=>[x]
 | .Tuple ts _ _=>ts.flatMap fun
  | .Name x _=>[x]
  | .Tuple us _ _=>us.flatMap fun
   | .Name x _=>[x]
   | _=>[]
  | _=>[]
 | _=>[]
noncomputable def freN (N:List Str) (ix:List Nat):List Str:=ix.map λi=>N.getD i ""
noncomputable def cmpB (X:Cx) (tg iter:Expr) (n:Nat) (ix:List Nat) (scope:Scope):Bool:=X.calm && (nse iter && ((tgN tg).length == n && zOs X.env.scope X.N (tgN tg) (freN X.N ix) ix scope))
section
variable {X:Cx}{K:PySem.W.Frag}{E:XE}{e a b c:Expr}{es:List Expr}{p pos:Pos}{m ma mb mc:DS.EM}{mt mu:DS.TM}
theorem yA0(h:varB X i x=true):DE X K E (.Name x pos) (DS.eVar i):=by simp only[varB,xl,vQ]at h;exact yAe i (by simpa using h.1) (zFs h.2.1) h.2.2.1 h.2.2.2
theorem zG3(h:setB X j x=true):X.N.Nodup/\X.N[j]?=some x/\Loc X.env.scope x/\(X.fn x=true\/X.env.scope.names.lookup x=some .local):=by simp only[setB,xl,Bool.or_eq_true]at h;exact⟨zG6 h.1,by simpa using h.2.1,zK0 h.2.2.1,by simpa using h.2.2.2⟩
theorem yA2(h:(setB X j x && nco e)=true)(he:DE X K E e m):DS1 X K E (.Assign [.Name x pos'] e pos) (DS.sSet j m):=by rw[xl]at h;have z:=zG3 h.1;exact zWi z.1 z.2.1 z.2.2.1 he z.2.2.2 h.2
theorem zWe(h:setB X j x=true):DG X K (.Name x pos) (DS.gName j):=
 have z:=zG3 h
 zWr z.1 z.2.1 z.2.2.1 z.2.2.2
theorem zKf{n:Nat}{ix:List Nat}(h:cmpB X tg iter n ix scope=true):X.calm=true/\nse iter=true/\(tgN tg).length=n/\CompScope X (tgN tg) (freN X.N ix) ix scope:=by simp only[cmpB,xl]at h;exact⟨h.1,h.2.1,by simpa using h.2.2.1,.mk' rfl rfl h.2.2.2⟩
section
variable {ix:List Nat}{n:Nat}{scope:Scope}{j:Nat}{x:Str}{cpos pos':Pos}{tg elt iter:Expr}{ifs:List Expr}{im:DS.IM}{g:DS.GM}
theorem zWf(h:cmpB X tg iter n ix scope=true)(hi:DI X K E tg iter im)
  (hg:∀cl C s H fp,DG (zAf X (tgN tg++freN X.N ix) scope cl C s H fp) K tg g) (ht:∀cl C s H fp,DIf (zAf X (tgN tg++freN X.N ix) scope cl C s H fp) K E ifs mt) (he:∀cl C s H fp,DE (zAf X (tgN tg++freN X.N ix) scope cl C s H fp) K E elt m):
  DF X K E (.ListComp elt [⟨tg,iter,ifs,0⟩] scope pos) (DS.zAv n ix im g mt m):=
 have z:=zKf h
 zWs z.1 z.2.2.2 hi hg ht he z.2.2.1 z.2.1
theorem zRs(hsw:swapsWith (.ListComp elt [⟨tg,iter,ifs,0⟩] scope cpos) (some (.Name x pos')) pos.line X.env=pure true)(h1:setB X j x=true)(h:cmpB X tg iter n ix scope=true)(hi:DI X K E tg iter im)
  (hg:∀cl C s H fp,DG (zAf X (tgN tg++freN X.N ix) scope cl C s H fp) K tg g) (ht:∀cl C s H fp,DIf (zAf X (tgN tg++freN X.N ix) scope cl C s H fp) K E ifs mt) (he:∀cl C s H fp,DE (zAf X (tgN tg++freN X.N ix) scope cl C s H fp) K E elt m):
  DS1 X K E (.Assign [.Name x pos'] (.ListComp elt [⟨tg,iter,ifs,0⟩] scope cpos) pos) (DS.sSet j (DS.eNew (DS.zAv n ix im g mt m))):=
 have z:=zKf h;have y:=zG3 h1
 zOb y.1 y.2.1 y.2.2.1 z.1 z.2.2.2 hi hg ht he hsw z.2.1 y.2.2.2 z.2.2.1
end
noncomputable def glB (X:Cx) (x:Str):Bool:=X.env.kindOf x == some .globalImplicit
theorem zO3(h:glB X x=true):Gl X x:=by simpa[glB,Gl]using h
noncomputable def zLz (X:Cx) (x:Str) (es:List Expr):Bool:=glB X x && (!(x == ("__debug__":Str)) && (!(x == ("__name__":Str)) && es.all nst))
theorem zDr(h:zLz X x es=true):Gl X x/\(x == ("__debug__":Str))=false/\x≠"__name__"/\es.all nst=true:=by simp only[zLz,xl,vQ]at h;exact⟨zO3 h.1,h.2.1,by simpa using h.2.2.1,h.2.2.2⟩
theorem zWg(C:Cal X.prog X.w X.K X.mg X.base x k ps (spOf K E F))(hr:Room k X.A)(h:zLz X x (e::es)=true)(ha:DA X K E (e::es) am):DE X K E (.Call (.Name x p) (e::es) [] pos) (DS.zA3 F am):=
 have z:=zDr h
 zWt C hr z.1 ha z.2.1 z.2.2.2
theorem yC5{g:Store->List D->Option D}(hc:zB9 X (.builtin iq) (cOf K g))(hv:bootBuiltins x=some (.builtin iq))(hm:X.mg x=none)(h:zLz X x (e::es)=true)(ha:DA X K E (e::es) am):DE X K E (.Call (.Name x p) (e::es) [] pos) (DS.eCB g am):=
 have z:=zDr h
 yCl hc z.1 hm hv ha z.2.2.1 z.2.1 z.2.2.2
theorem yC4{g:Store->List D->Option D}(hc:zB9 X (.type T) (cOf K g))(hv:bootBuiltins x=some (.type T))(hm:X.mg x=none)(h:zLz X x (e::es)=true)(ha:DA X K E (e::es) am):DE X K E (.Call (.Name x p) (e::es) [] pos) (DS.eCB g am):=
 have z:=zDr h
 yCk hc z.1 hm hv ha z.2.2.1 z.2.1 z.2.2.2
theorem yA1(h:ntu e=true)(he:DE X K E e m)(hg:DG X K (.Tuple ts k tp) g):DS1 X K E (.Assign [.Tuple ts k tp] e pos) (DS.sUnp g m):=zWh he hg h
structure MtS (T:String) (x:Str) (iq:String):Prop where
 pa:PlainAttrs T
 sl:Slot T x iq
 ty:typeOf (.builtin iq)=pure (.type "method_descriptor")
 hT:T="str"\/T="list"\/T="dict"
theorem zQ6:MtS "list" "append" "list.append":=⟨PySem.F.plainAttrs_list,PySem.F.slot_list_append,PySem.F.type_list_append,.inr (.inl rfl)⟩
theorem s_pop:MtS "list" "pop" "list.pop":=⟨PySem.F.plainAttrs_list,PySem.F.slot_list_pop,PySem.F.type_list_pop,.inr (.inl rfl)⟩
theorem zQ5:MtS "list" "extend" "list.extend":=⟨PySem.F.plainAttrs_list,PySem.F.slot_list_extend,PySem.F.type_list_extend,.inr (.inl rfl)⟩
theorem zH1:MtS "str" "startswith" "str.startswith":=⟨uY,PySem.F.slot_str_startswith,PySem.F.type_str_startswith,.inl rfl⟩
theorem s_split:MtS "str" "split" "str.split":=⟨uY,uW,PySem.F.type_str_split,.inl rfl⟩
theorem zXq:MtS "str" "join" "str.join":=⟨uY,PySem.F.slot_str_join,PySem.F.type_str_join,.inl rfl⟩
noncomputable def mtB (o:Expr) (es:List Expr) (apos cpos:Pos):Bool:=nba o && (es.all nst && (decide (es.length+0+0<30) && (apos.endLine == cpos.line)))
theorem zO9{g:Store->D->List D->Option (D × Store)}(S:MtS T x iq)(hm:MtR X iq (mOf K g))(h:mtB o (e::es) apos cpos=true)(hK:X.K=K)(ho:DE X K E o mo)(ha:DA X K E (e::es) am):
  DE X K E (.Call (.Attribute o x apos) (e::es) [] cpos) (DS.eMt T g mo am):=by
 simp only[mtB,xl]at h;exact yCf S.pa S.sl S.ty hm S.hT ho ha h.1 h.2.1 h.2.2.1 h.2.2.2 hK
theorem yA4{g:Store->D->List D->Option (D × Store)}(S:MtS T x iq)(hm:MtR X iq (mOf K g))(h:mtB o [] apos cpos=true)(hK:X.K=K)(ho:DE X K E o mo):
  DE X K E (.Call (.Attribute o x apos) [] [] cpos) (DS.eMt T g mo DS.aNil):=by
 simp only[mtB,xl]at h;exact yAm S.pa S.sl S.ty hm S.hT ho h.1 h.2.2.2 hK
end
noncomputable def scB (N ps:List Str) (sc:Scope):Bool:=sc.kind == .function && (!sc.isCoroutine && (!sc.isGenerator && (ndB N && (N.take ps.length == ps && (ps.all (λx=>locB (sc.names.lookup x)) && sc.names.all λy=>y.2 != .free)))))
theorem zEj(h:scB N ps sc=true):zCz N ps sc:=by simp only[scB,xl,vQ,ve]at h;obtain⟨h1,h2,h3,h4,h5,h6,h7⟩:=h;exact⟨by simpa using h1,h2,h3,zG6 h4,by simpa using h5,λx hx=>zK0 (h6 x hx),λy hy=>by simpa using h7 y hy⟩
noncomputable abbrev fO (x:Str) (tq:Stmt) (pm:Value) (cd:Addr):Obj:=⟨.type "function",none,.func (PySem.W.fnOf x x (zBo tq) (zAu tq) (zA6 tq) .none .none .none pm none (.ref cd) .none),#[]⟩
structure Gd (K:PySem.W.Frag) (mg:Str->Option Value):Prop where
 a:∀x v,PySem.W.nsIn K mainGlobals x=some (some v)->mg x=some v
 z:∀x,PySem.W.nsIn K mainGlobals x=some none->mg x=none
section
variable {P:Program}{w:World}{K:PySem.W.Frag}{mg:Str->Option Value}{base:Heap}
theorem zK6(l:K.lookup f=some (fO x tq pm cd))(c:PySem.W.codeIn K (.ref cd) x=true)(kp:PySem.W.keepIn K (.ref f)=true):Fun K x x tq f (PySem.W.fnOf x x (zBo tq) (zAu tq) (zA6 tq) .none .none .none pm none (.ref cd) .none):=zSw l c kp
theorem zBc(G:Gd K mg)(f cd:Addr)(tq:Stmt)(pm:Value)(N:List Str){x:Str}{ps:List Str}{k:Nat}{b:DS.SM}
  (hb:∀(cdv:Value) (A:Around) (outer:List PySem.Env) (s:Shared) (H:Hp) (E:XK),Room k (A.deeper (envOfC x (zA6 tq) s.heap.objs.size f cdv))->DSs (cxOf CX0 P w K mg base N x (zA6 tq) f cdv A outer s H E).nox K XE0 (zAu tq) b)
  (l:K.lookup f=some (fO x tq pm cd)) (c:(PySem.W.codeIn K (.ref cd) x && (PySem.W.keepIn K (.ref f) && scB N ps (zA6 tq)))=true) (hm:PySem.W.nsIn K mainGlobals x=some (some (.ref f)))
  (bd:∀(kV doc pm:Value) (an:Option Addr) (cdv ct:Value) (us:List Value),us.length=ps.length->bindArgs (PySem.W.fnOf x x (zBo tq) (zAu tq) (zA6 tq) .none kV doc pm an cdv ct) ⟨us,[]⟩=pure (ps.zip us)):Cal P w K mg base x (k+1) ps (spOf K XE0 (DS.zAg ps.length N.length b)):=by
 rw[xl,xl]at c;have F:=zK6 l c.1 c.2.1;exact⟨_,_,fn_d F (zEj c.2.2) rfl rfl hb,G.a _ _ hm,F.kp,F.binds bd⟩
theorem yCp(G:Gd K mg)(f cd:Addr)(tq:Stmt)(pm:Value)(N:List Str){x:Str}{ps:List Str}{k:Nat}{b:DS.SM}
  (hb:∀(cdv:Value) (A:Around) (outer:List PySem.Env) (s:Shared) (H:Hp) (E:XK),Room k (A.deeper (envOfC x (zA6 tq) s.heap.objs.size f cdv))->DSs (cxOf CX0 P w K mg base N x (zA6 tq) f cdv A outer s H E).nox K XE0 (zAu tq) b)
  (l:K.lookup f=some (fO x tq pm cd)) (c:(PySem.W.codeIn K (.ref cd) x && (PySem.W.keepIn K (.ref f) && scB N ps (zA6 tq)))=true) (hm:PySem.W.nsIn K mainGlobals x=some (some (.ref f)))
  (bd:∀(kV doc pm:Value) (an:Option Addr) (cdv ct:Value) (us:List Value),us.length=ps.length->bindArgs (PySem.W.fnOf x x (zBo tq) (zAu tq) (zA6 tq) .none kV doc pm an cdv ct) ⟨us,[]⟩=pure (ps.zip us)):Cal P w K mg base x (k+1) ps (spOf K XE0 (DS.zGo ps.length N.length b)):=by
 rw[xl,xl]at c;have F:=zK6 l c.1 c.2.1;exact⟨_,_,fn_r F (zEj c.2.2) rfl rfl hb,G.a _ _ hm,F.kp,F.binds bd⟩
end
end L2
namespace DS
noncomputable def eqI (_:Store) (x y:D):Option D:=match x,y with
 | .int a,.int b=>some (.bl (decide (a=b)))
 | _,_=>none
theorem zCa{a b:Int}:eqI S (.int a) (.int b)=some (.bl (decide (a=b))):=rfl
section
open Classical
noncomputable def mulT (S:Store) (x y:D):Option D:=match x,y with
 | .tup l,.int n=>if l≠[]/\1<=n/\l.length*n.toNat<=most/\n<=1000000 then some (.tup (List.replicate n.toNat l).flatten)else none
 | x,y=>mulD S x y
end
theorem zR6{l:List D}{n:Int}(h0:l≠[])(h1:1<=n)(h2:n<=1000)(h3:l.length<=1000):mulT S (.tup l) (.int n)=some (.tup (List.replicate n.toNat l).flatten):=by unfold mulT;simp only;rw[xc ⟨h0,h1,xq (Nat.mul_le_mul h3 (show n.toNat<=1000 by nofun)) (by decide),by nofun⟩]
section
open Classical
def lvs(l:List D):Prop:=∃n,n<=5/\∀d∈l,lv n d
noncomputable def neK (_:Store) (x y:D):Option D:=match x,y with
 | .int a,.int b=>some (.bl (!decide (a=b)))
 | .bl a,.bl b=>some (.bl (!decide (a=b)))
 | .str a,.str b=>some (.bl (!decide (a=b)))
 | .tup l,.tup m=>if lvs (l++m)then some (.bl (!decide (l=m)))else none
 | _,_=>none
end
open PySem (Str)
section
open Classical
noncomputable def startM (S:Store) (x:D) (xs:List D):Option (D × Store):=match x,xs with
 | .str z,[.str y]=>some (.bl (PySem.Txt.startswith z y),S)
 | _,_=>none
noncomputable def splitM (S:Store) (x:D) (xs:List D):Option (D × Store):=match x,xs with
 | .str z,[.str y]=>if 0<y.length/\z.length<=100000/\(PySem.Txt.split z y).length<=most then some (.lst ((PySem.Txt.split z y).map D.str),S)else none
 | _,_=>none
noncomputable def strsOf:List D->Option (List Str)
 | []=>some []
 | .str x::r=>(strsOf r).map (x::·)
 | _=>none
theorem zBr:∀l:List Str,strsOf (l.map D.str)=some l
 | []=>rfl
 | a::l=>by show(strsOf (l.map D.str)).map (a::·)=_;rw[zBr l];rfl
theorem zCp:∀{l:List D}{xs:List Str},strsOf l=some xs->l=xs.map D.str
 | [],xs,h=>by cases h;rfl
 | a::l,xs,h=>by
  cases a with
  | str x=>
   have h:(strsOf l).map (x::·)=some xs:=h;cases e:strsOf l with
   | none=>rw[e]at h;cases h
   | some ys=>rw[e]at h;cases h;rw[zCp e];rfl
  | _=>cases h
noncomputable def joinM (S:Store) (x:D) (xs:List D):Option (D × Store):=match x,xs with
 | .str sep,[d]=>match(match look S d with|some (.lst l)=>strsOf l|_=>none)with
  | some ys=>if sep.length<=16/\(ys.map (·.length)).sum+ys.length<=1048576 then some (.str (PySem.Txt.join sep ys),S)else none
  | none=>none
 | _,_=>none
noncomputable def strI (_:Store):List D->Option D
 | [.int i]=>if i.natAbs.log2<1920 then some (.str (Str.ofString (toString i)))else none
 | _=>none
noncomputable def intS (_:Store):List D->Option D
 | [.str x]=>match PySem.intText? x with
  | some n=>if x.length<=640 then some (.int n)else none
  | none=>none
 | _=>none
noncomputable def eBad:EM:=λ_ _=>.bad
noncomputable def mulS (S:Store) (x y:D):Option D:=match x,y with
 | .str z,.int n=>if n=1 then some (.str z)else if n=0 then some (.str PySem.Str.empty)else none
 | x,y=>mulD S x y
end
noncomputable def exOf (d:D):Exn:=⟨"",[("",d)]⟩
noncomputable def Rs.ne {α:Type}(r:Rs α):Rs α:=match r with
 | .ok a S=>.ok a S
 | _=>.bad
noncomputable def SR.ne (r:SR):SR:=match r with
 | .ex _ _=>.bad
 | r=>r
noncomputable def neR {α:Type}(m:Env->Store->Rs α):Env->Store->Rs α:=λenv S=>(m env S).ne
noncomputable def neS (m:SM):SM:=λenv S=>(m env S).ne
@[simp] theorem Rs.ne_ok {α:Type}{a:α}{S:Store}:(Rs.ok a S).ne=.ok a S:=rfl
@[simp] theorem SR.ne_nx {e:Env}{S:Store}:(SR.nx e S).ne=.nx e S:=rfl
@[simp] theorem SR.ne_rt {d:D}{S:Store}:(SR.rt d S).ne=.rt d S:=rfl
noncomputable def zMm (mk:List D->Option D) (am:AM):SM:=λenv S=>(am env S).then λds S'=>match mk ds with
 | some d=>.ex (exOf d) S'
 | none=>.bad
noncomputable def mkX (C:Nat) (f:PySem.Str) (ds:List D):Option D:=match ds with
 | [d]=>some (.st [.non,.int C,.str f,d])
 | _=>none
noncomputable def yC1 (c m:EM):EM:=λenv S=>(c env S).bind λx S1=>(m env S1).bind λy S2=>.ok (.tup [x,y]) S2
noncomputable def neF (F:Fn):Fn:=λds S=>(F ds S).ne
section
open Classical
def yBu(x y:D):Prop:=(∃a b,x=.str a/\y=.str b)\/∃n,n<=5/\lv n x/\lv n y
noncomputable def inTO (S:Store) (x y:D):Option Bool:=match x,y with
 | .str a,.tup l=>match strsOf l with
  | some ys=>some (decide (a∈ys))
  | none=>none
 | .str a,.str b=>some (!(PySem.Builtin.Str.occurrences b a 0 b.length 1).isEmpty)
 | _,_=>none
noncomputable def inT (S:Store) (x y:D):Option D:=(inTO S x y).map D.bl
noncomputable def slS (S:Store) (x:D) (lo hi:Option Int):Option D:=match x with
 | .str z=>if(∀v,lo=some v->0<=v)/\(∀v,hi=some v->0<=v)/\z.length<=100000 then some (.str ⟨(cutL z.cps.toList lo hi).toArray⟩)else none
 | x=>slD S x lo hi
def zZ6(x y:D):Prop:=(∃a b,x=.bl a/\y=.bl b)\/yBu x y
noncomputable def eqY (_:Store) (x y:D):Option D:=match x,y with
 | .str a,.str b=>some (.bl (decide (a=b)))
 | .tup l,.tup m=>if ∀p∈l.zip m,zZ6 p.1 p.2 then some (.bl (decide (l=m)))else none
 | _,_=>none
end
noncomputable def rep (c x y:Str):Str:=PySem.Txt.replace x y (c++y++c)
noncomputable def zG4 (jt js:Nat) (c y1 y2 y3:Str):SM:=λenv S=>match env[jt]? with
 | some (some (.str x))=>if x.length<=1048576/\(rep c x y1).length<=1048576/\(rep c (rep c x y1) y2).length<=1048576
   then .nx ((env.set js (some (.str y3))).set jt (some (.str (rep c (rep c (rep c x y1) y2) y3)))) S else .bad
 | _=>.bad
section
open Classical
noncomputable def eqLO (S:Store) (x y:D):Option Bool:=match look S x,look S y with
 | some (.lst l),some (.lst m)=>match strsOf l,strsOf m with
  | some a,some b=>some (decide (a=b))
  | _,_=>none
 | _,_=>none
noncomputable def eqLS (S:Store) (x y:D):Option D:=(eqLO S x y).map .bl
noncomputable def lenL (S:Store) (x y:D):Bool:=match look S x,look S y with
 | some (.lst l),some (.lst m)=>decide (l.length=m.length)
 | _,_=>false
noncomputable def neLS (S:Store) (x y:D):Option D:=if lenL S x y=true then(eqLO S x y).map λb=>.bl (!b)else none
end
end DS
namespace DP
open DS
section
noncomputable def zC0 (r:Fn):SM:=
  (sSeq (sSet 1 (eOp ixD (eVar 0) (eC (.int 0))))
  (sSeq (sIf (tB (eOp eqY (eVar 1) (eC (.str (PySem.Str.ofString "cell"))))) (sRet (eOp addD (eOp addD (eCB strI (zA0 (eOp ixD (eVar 0) (eC (.int 1))) aNil)) (eC (.str (PySem.Str.ofString ",")))) (eCB strI (zA0 (eOp ixD (eVar 0) (eC (.int 2))) aNil)))) zAd)
  (sSeq (sIf (tB (eOp eqY (eVar 1) (eC (.str (PySem.Str.ofString "name"))))) (sRet (eOp ixD (eVar 0) (eC (.int 1)))) zAd)
  (sSeq (sIf (tB (eOp eqY (eVar 1) (eC (.str (PySem.Str.ofString "at"))))) (sRet (eOp addD (eOp addD (eOp addD (eOp addD (eOp addD (eOp addD (eC (.str (PySem.Str.ofString "at("))) (eCB strI (zA0 (eOp ixD (eVar 0) (eC (.int 1))) aNil))) (eC (.str (PySem.Str.ofString ",")))) (eCB strI (zA0 (eOp ixD (eVar 0) (eC (.int 2))) aNil))) (eC (.str (PySem.Str.ofString " ")))) (zA3 r (zA0 (eOp ixD (eVar 0) (eC (.int 3))) aNil))) (eC (.str (PySem.Str.ofString ")"))))) zAd)
  (sSeq (sIf (tB (eOp eqY (eVar 1) (eC (.str (PySem.Str.ofString "by"))))) (sRet (eOp addD (eOp addD (eOp addD (eOp addD (eC (.str (PySem.Str.ofString "by("))) (eMt "str" joinM (eC (.str (PySem.Str.ofString ","))) (zA0 (zAv 1 [] (iVal (eOp ixD (eVar 0) (eC (.int 1)))) (gName 0) tYes (eCB strI (zA0 (eVar 0) aNil))) aNil))) (eC (.str (PySem.Str.ofString " ")))) (zA3 r (zA0 (eOp ixD (eVar 0) (eC (.int 2))) aNil))) (eC (.str (PySem.Str.ofString ")"))))) zAd)
  (sSeq (sIf (tB (eOp eqY (eVar 1) (eC (.str (PySem.Str.ofString "then"))))) (sRet (eOp addD (eOp addD (eOp addD (eOp addD (eC (.str (PySem.Str.ofString "then("))) (zA3 r (zA0 (eOp ixD (eVar 0) (eC (.int 1))) aNil))) (eC (.str (PySem.Str.ofString " ")))) (zA3 r (zA0 (eOp ixD (eVar 0) (eC (.int 2))) aNil))) (eC (.str (PySem.Str.ofString ")"))))) zAd)
  (sSeq (sSet 2 (eIf (tB (eOp eqY (eVar 1) (eC (.str (PySem.Str.ofString "least"))))) (eCB strI (zA0 (eOp ixD (eVar 0) (eC (.int 1))) aNil)) (eVar 1)))
  (sRet (eOp addD (eOp addD (eOp addD (eVar 2) (eC (.str (PySem.Str.ofString "(")))) (eMt "str" joinM (eC (.str (PySem.Str.ofString " "))) (zA0 (zAv 1 [] (iVal (eOp ixD (eVar 0) (eUn negD (eC (.int 1))))) (gName 0) tYes (zA3 r (zA0 (eVar 0) aNil))) aNil))) (eC (.str (PySem.Str.ofString ")"))))))))))))
noncomputable def zB5:Nat->Fn
 | 0=>zAg 1 3 zJv
 | n+1=>zAg 1 3 (zC0 (zB5 n))
noncomputable def zDc:Fn:=zB5 12
noncomputable def zCl (r:Fn):SM:=
  (sSeq (sIf (tB (eOp ltN (eVar 0) (eC (.int 0)))) (sRet (eOp addD (eC (.str (PySem.Str.ofString "-"))) (zA3 r (zA0 (eUn negD (eVar 0)) aNil)))) zAd)
  (sSeq (sSet 1 (eOp powD (eC (.int 10)) (eC (.int 64))))
  (sSeq (sSet 2 (eC (.str (PySem.Str.ofString ""))))
  (sSeq (zC2 (tB (eOp geD (eVar 0) (eVar 1))) (sSeq (sSet 2 (eOp addD eBad (eVar 2)))
  (sSet 0 (eOp zGi (eVar 0) (eVar 1)))))
  (sRet (eOp addD (eCB strI (zA0 (eVar 0) aNil)) (eVar 2)))))))
noncomputable def zAz:Nat->Fn
 | 0=>zAg 1 3 zJv
 | n+1=>zAg 1 3 (zCl (zAz n))
noncomputable def zBp:Fn:=zAz 2
noncomputable def zI3:SM:=
  (sRet (eOp subD (eOp mulD (eOp ixD (eVar 0) (eC (.int 0))) (eOp ixD (eVar 0) (eC (.int 3)))) (eOp mulD (eOp ixD (eVar 0) (eC (.int 1))) (eOp ixD (eVar 0) (eC (.int 2))))))
noncomputable def zC4:Fn:=zAg 1 1 zI3
noncomputable def zFp:SM:=
  (sSeq (sSet 1 (eOp ixD (eVar 0) (eC (.int 0))))
  (sSeq (sIf (tB (eOp inD (eVar 1) (eTup (zA0 (eC (.str (PySem.Str.ofString "cell"))) (zA0 (eC (.str (PySem.Str.ofString "name"))) aNil))))) (sRet (eTup aNil)) zAd)
  (sSeq (sIf (tB (eOp inD (eVar 1) (eTup (zA0 (eC (.str (PySem.Str.ofString "all"))) (zA0 (eC (.str (PySem.Str.ofString "any"))) (zA0 (eC (.str (PySem.Str.ofString "least"))) aNil)))))) (sRet (eOp ixD (eVar 0) (eUn negD (eC (.int 1))))) zAd)
  (sRet (eIf (tB (eOp eqY (eVar 1) (eC (.str (PySem.Str.ofString "then"))))) (eSl slD (eVar 0) (pYes (eC (.int 1))) pNo) (eSl slD (eVar 0) (pYes (eUn negD (eC (.int 1)))) pNo))))))
noncomputable def zBt:Fn:=zAg 1 2 zFp
noncomputable def zPh:SM:=
  (sSeq (sIf (tOr (tNot (tB (zBg leD leD (eC (.int 1)) (eCB lenB (zA0 (eVar 0) aNil)) (eC (.int 8))))) (tB (eOp inD (eVar 0) (eC (.ktup [(.str (PySem.Str.ofString "all")),(.str (PySem.Str.ofString "any")),(.str (PySem.Str.ofString "at")),(.str (PySem.Str.ofString "by")),(.str (PySem.Str.ofString "then"))]))))) (sRet (eC (.bl false))) zAd)
  (sRet (eCB allB (zA0 (zAv 1 [] (iVal (eVar 0)) (gName 0) tYes (zBg leD leD (eC (.str (PySem.Str.ofString "a"))) (eVar 0) (eC (.str (PySem.Str.ofString "z"))))) aNil))))
noncomputable def zEp:Fn:=zAg 1 1 zPh
noncomputable def zJa:SM:=
  (sSeq (sSet 2 (eIf (tTru (eMt "str" startM (eVar 0) (zA0 (eC (.str (PySem.Str.ofString "-"))) aNil))) (eSl slS (eVar 0) (pYes (eC (.int 1))) pNo) (eVar 0)))
  (sSeq (sIf (tNot (tB (zBg leD leD (eC (.int 1)) (eCB lenB (zA0 (eVar 2) aNil)) (eVar 1)))) (sRet (eC (.bl false))) zAd)
  (sSeq (sIf (tNot (tTru (eCB allB (zA0 (zAv 1 [] (iVal (eVar 2)) (gName 0) tYes (zBg leD leD (eC (.str (PySem.Str.ofString "0"))) (eVar 0) (eC (.str (PySem.Str.ofString "9"))))) aNil)))) (sRet (eC (.bl false))) zAd)
  (sRet (eOr (eOp eqY (eVar 0) (eC (.str (PySem.Str.ofString "0")))) (eOp neK (eOp ixD (eVar 2) (eC (.int 0))) (eC (.str (PySem.Str.ofString "0")))))))))
noncomputable def zB7:Fn:=zAg 2 3 zJa
noncomputable def zEw:SM:=
  (sSeq (sIf (tB (eOp inT (eC (.str (PySem.Str.ofString "\n"))) (eVar 0))) (sRet (eLst (zA0 (eC (.str (PySem.Str.ofString "\n"))) aNil))) zAd)
  (sSeq (zG4 0 1 (PySem.Str.ofString "\n") (PySem.Str.ofString "(") (PySem.Str.ofString ")") (PySem.Str.ofString " "))
  (sRet (zAv 1 [] (iVal (eMt "str" splitM (eVar 0) (zA0 (eC (.str (PySem.Str.ofString "\n"))) aNil))) (gName 0) (tB (eOp neK (eVar 0) (eC (.str (PySem.Str.ofString ""))))) (eVar 0)))))
noncomputable def zBl:Fn:=zAg 1 2 zEw
noncomputable def zS5:SM:=
  (sSeq (sIf (tB (eOp inD (eOp ixD (eVar 0) (eC (.int 0))) (eTup (zA0 (eC (.str (PySem.Str.ofString "all"))) (zA0 (eC (.str (PySem.Str.ofString "any"))) aNil))))) (sRet (eOp addD (eVar 0) (eTup (zA0 (eVar 1) aNil)))) zAd)
  (sSeq (sIf (tB (eOp eqY (eOp ixD (eVar 0) (eC (.int 0))) (eC (.str (PySem.Str.ofString "least"))))) (sRet (eIf (tB (eOp leD (eOp ixD (eVar 0) (eC (.int 1))) (eCB lenB (zA0 (eVar 1) aNil)))) (eOp addD (eVar 0) (eTup (zA0 (eVar 1) aNil))) (eC .non))) zAd)
  (sSeq (sSet 2 (eIf (tB (eOp eqY (eOp ixD (eVar 0) (eC (.int 0))) (eC (.str (PySem.Str.ofString "then"))))) (eC (.int 2)) (eC (.int 1))))
  (sRet (eIf (tB (eOp eqI (eCB lenB (zA0 (eVar 1) aNil)) (eVar 2))) (eOp addD (eVar 0) (eVar 1)) (eC .non))))))
noncomputable def zDo:Fn:=zAg 2 3 zS5
noncomputable def zJc:SM:=
  (sSeq (sSet 2 (eOp addD (eOp mulD (eC (.int 7901)) (eVar 1)) (eC (.int 24697))))
  (sSeq (sIf (tB (eOp ltN (eVar 1) (eCB lenB (zA0 (eVar 0) aNil)))) (sSet 2 (eOp ixD (eVar 0) (eVar 1))) (sIf (tB (eOp gtD (eCB lenB (zA0 (eVar 0) aNil)) (eC (.int 0)))) (sSet 2 (eOp addD (eOp mulD (eOp modD (eOp ixD (eVar 0) (eOp modD (eVar 1) (eCB lenB (zA0 (eVar 0) aNil)))) (eC (.int 2147483629))) (eC (.int 31))) (eOp mulD (eC (.int 7901)) (eVar 1)))) zAd))
  (sSeq (sSet 3 (eC (.int 0)))
  (sSeq (sIf (tB (eOp geD (eVar 2) (eOp powD (eC (.int 10)) (eC (.int 18))))) (sSet 3 (eVar 2)) zAd)
  (sRet (eNew (eLst (zA0 (eVar 3) (zA0 (eOp addD (eOp modD (eOp powD (eOp addD (eOp mulD (eOp modD (eVar 2) (eC (.int 2147483629))) (eC (.int 48271))) (eOp mulD (eC (.int 40692)) (eVar 1))) (eC (.int 5))) (eC (.int 2147483629))) (eC (.int 1))) aNil)))))))))
noncomputable def zCh:Fn:=zGo 2 4 zJc
noncomputable def zJb:SM:=
  (sSeq (sIf (tB (eOp gtD (eOp ixD (eVar 0) (eC (.int 0))) (eC (.int 0)))) (sSeq (sSet 2 (eOp modD (eOp ixD (eVar 0) (eC (.int 0))) (eVar 1)))
  (sSeq (sPut putD (eVar 0) (eC (.int 0)) (eOp zGi (eOp ixD (eVar 0) (eC (.int 0))) (eVar 1)))
  (sRet (eVar 2)))) zAd)
  (sSeq (sSet 3 (eOp modD (eOp mulD (eOp ixD (eVar 0) (eC (.int 1))) (eC (.int 69623))) (eC (.int 2147483647))))
  (sSeq (sPut putD (eVar 0) (eC (.int 1)) (eOp addD (eOp modD (eOp addD (eOp mulD (eVar 3) (eC (.int 48271))) (eC (.int 30103))) (eC (.int 2147483629))) (eC (.int 1))))
  (sRet (eOp modD (eOp zGi (eOp addD (eOp mulD (eVar 3) (eC (.int 2147483647))) (eOp ixD (eVar 0) (eC (.int 1)))) (eC (.int 8191))) (eVar 1))))))
noncomputable def zA2:Fn:=zAg 2 4 zJb
noncomputable def zI6:SM:=
  (sSeq (sSet 2 (eNew (eLst (zA0 (eTup (zA0 (eVar 0) (zA0 (eVar 1) aNil))) aNil))))
  (sSeq (zC2 (tB (eOp gtD (eCB lenB (zA0 (eVar 2) aNil)) (eC (.int 0)))) (sSeq (sUnp (gTup [(gName 3),(gName 4)]) (eMt "list" popM (eVar 2) aNil))
  (sSeq (sIf (tOr (tB (eOp neK (eCB isiB (zA0 (eVar 3) (zA0 (eC (.ty "bool")) aNil))) (eCB isiB (zA0 (eVar 4) (zA0 (eC (.ty "bool")) aNil))))) (tB (eOp neK (eCB isiB (zA0 (eVar 3) (zA0 (eC (.ty "tuple")) aNil))) (eCB isiB (zA0 (eVar 4) (zA0 (eC (.ty "tuple")) aNil)))))) (sRet (eC (.bl false))) zAd)
  (sSeq (sIf (tOr (tB (eOp neK (eCB isiB (zA0 (eVar 3) (zA0 (eC (.ty "int")) aNil))) (eCB isiB (zA0 (eVar 4) (zA0 (eC (.ty "int")) aNil))))) (tB (eOp neK (eCB isiB (zA0 (eVar 3) (zA0 (eC (.ty "str")) aNil))) (eCB isiB (zA0 (eVar 4) (zA0 (eC (.ty "str")) aNil)))))) (sRet (eC (.bl false))) zAd)
  (sIf (tTru (eCB isiB (zA0 (eVar 4) (zA0 (eC (.ty "tuple")) aNil)))) (sSeq (sIf (tB (eOp neK (eCB lenB (zA0 (eVar 3) aNil)) (eCB lenB (zA0 (eVar 4) aNil)))) (sRet (eC (.bl false))) zAd)
  (zAp (eMt "list" zB8 (eVar 2) (zA0 (eCB zipT (zA0 (eVar 3) (zA0 (eVar 4) aNil))) aNil)))) (sIf (tB (eOp neK (eVar 3) (eVar 4))) (sRet (eC (.bl false))) zAd))))))
  (sRet (eC (.bl true)))))
noncomputable def zAs:Fn:=zAg 2 5 zI6
noncomputable def zF8:SM:=
  (sSeq (sSet 3 (eMt "str" splitM (eVar 0) (zA0 (eC (.str (PySem.Str.ofString ","))) aNil)))
  (sSeq (sIf (tOr (tB (eOp neK (eCB lenB (zA0 (eVar 3) aNil)) (eVar 1))) (tNot (tTru (eCB allB (zA0 (zAv 1 [2] (iVal (eVar 3)) (gName 0) tYes (zA3 zB7 (zA0 (eVar 0) (zA0 (eVar 1) aNil)))) aNil))))) (sRet (eC .non)) zAd)
  (sRet (eCB zCn (zA0 (zAv 1 [] (iVal (eVar 3)) (gName 0) tYes (eCB intS (zA0 (eVar 0) aNil))) aNil)))))
noncomputable def zAn:Fn:=zAg 3 4 zF8
noncomputable def zF9:SM:=
  (sSeq (sSet 1 (eNew (eLst aNil)))
  (sSeq (sFor (iVal (zA3 zBt (zA0 (eVar 0) aNil))) (gName 2) (zAp (eMt "list" zB8 (eVar 1) (zA0 (eLst (zA0 (eC (.str (PySem.Str.ofString " "))) (zA0 (eVar 2) aNil))) aNil))))
  (sRet (eIf (tTru (eVar 1)) (eOp addD (eSl slD (eVar 1) (pYes (eC (.int 1))) pNo) (eLst (zA0 (eC (.str (PySem.Str.ofString ")"))) aNil))) (eLst aNil)))))
noncomputable def zAx:Fn:=zAg 1 3 zF9
noncomputable def zBq:SM:=
  (sSeq (zC2 (tB (eOp eqLS (eSl slD (eVar 0) (pYes (eVar 1)) (pYes (eOp addD (eVar 1) (eC (.int 1))))) (eLst (zA0 (eC (.str (PySem.Str.ofString ")"))) aNil)))) (sSeq (sIf (tNot (tTru (eVar 2))) (sRet (eC .non)) zAd)
  (sSeq (sSet 4 (zA3 zDo (zA0 (eMt "list" popM (eVar 2) aNil) (zA0 (eCB zCn (zA0 (eMt "list" popM (eVar 3) aNil) aNil)) aNil))))
  (sSeq (sIf (tB (eOp isD (eVar 4) (eC .non))) (sRet (eC .non)) zAd)
  (sSeq (zAp (eMt "list" zAi (eOp ixD (eVar 3) (eUn negD (eC (.int 1)))) (zA0 (eVar 4) aNil)))
  (sSet 1 (eOp addD (eVar 1) (eC (.int 1)))))))))
  (sSeq (sIf (tB (eOp eqI (eVar 1) (eCB lenB (zA0 (eVar 0) aNil)))) (sRet (eVar 1)) zAd)
  (sRet (eIf (tAnd (tTru (eVar 2)) (tB (eOp eqY (eOp ixD (eVar 0) (eVar 1)) (eC (.str (PySem.Str.ofString " ")))))) (eOp addD (eVar 1) (eC (.int 1))) (eC .non)))))
noncomputable def zBf:Fn:=zAg 4 5 zBq
noncomputable def zE2:SM:=
  (sSeq (sSet 2 (eC (.str (PySem.Str.ofString "abcdefghijklmnopqrstuvwxyz"))))
  (sSeq (sSet 3 (eMt "str" joinM (eC (.str (PySem.Str.ofString ""))) (zA0 (zAv 1 [2,0] (zBx (zA0 (zA3 zA2 (zA0 (eVar 0) (zA0 (eC (.int 6)) aNil))) aNil)) (gName 0) tYes (eOp ixD (eVar 1) (zA3 zA2 (zA0 (eVar 2) (zA0 (eC (.int 26)) aNil))))) aNil)))
  (sSeq (sSet 4 (zA3 zA2 (zA0 (eVar 0) (zA0 (eOp addD (eCB lenB (zA0 (eVar 3) aNil)) (eC (.int 1))) aNil))))
  (sSeq (sSet 5 (zA3 zA2 (zA0 (eVar 0) (zA0 (eC (.int 26)) aNil))))
  (sSeq (sSet 6 (eNew (eLst aNil)))
  (sSeq (sFor (zBx (zA0 (eVar 1) aNil)) (gName 7) (sSeq (zAp (eMt "list" zAi (eVar 6) (zA0 (eOp addD (eOp addD (eSl slS (eVar 3) pNo (pYes (eVar 4))) (eOp ixD (eVar 2) (eOp modD (eOp addD (eVar 5) (eOp mulS (eC (.int 7)) (eVar 7))) (eC (.int 26))))) (eSl slS (eVar 3) (pYes (eVar 4)) pNo)) aNil)))
  (sIf (tB (eOp eqI (eOp modD (eVar 7) (eC (.int 4))) (eC (.int 3)))) (sPut putD (eVar 6) (eVar 7) (eOp addD (eOp ixD (eVar 6) (eOp subD (eVar 7) (eC (.int 1)))) (eC (.str (PySem.Str.ofString "z"))))) zAd)))
  (sSeq (sSet 6 (eNew (zAv 1 [] (iVal (eVar 6)) (gName 0) tYes (eOp addD (eVar 0) (eOp mulS (eC (.str (PySem.Str.ofString "q"))) (eCB intB (zA0 (eOp inD (eVar 0) (eTup (zA0 (eC (.str (PySem.Str.ofString "all"))) (zA0 (eC (.str (PySem.Str.ofString "any"))) (zA0 (eC (.str (PySem.Str.ofString "at"))) (zA0 (eC (.str (PySem.Str.ofString "by"))) (zA0 (eC (.str (PySem.Str.ofString "then"))) aNil))))))) aNil)))))))
  (sSeq (sSet 8 (eOp ixD (eLst (zA0 (eC (.str (PySem.Str.ofString "alla"))) (zA0 (eC (.str (PySem.Str.ofString "anyx"))) (zA0 (eC (.str (PySem.Str.ofString "att"))) (zA0 (eC (.str (PySem.Str.ofString "byby"))) (zA0 (eC (.str (PySem.Str.ofString "thens"))) (zA0 (eC (.str (PySem.Str.ofString "least"))) (zA0 (eC (.str (PySem.Str.ofString "cell"))) (zA0 (eC (.str (PySem.Str.ofString "name"))) aNil))))))))) (zA3 zA2 (zA0 (eVar 0) (zA0 (eC (.int 8)) aNil)))))
  (sSeq (sIf (tAnd (tB (eOp eqI (zA3 zA2 (zA0 (eVar 0) (zA0 (eC (.int 3)) aNil))) (eC (.int 1)))) (tB (eOp zDj (eVar 8) (eVar 6)))) (sPut putD (eVar 6) (zA3 zA2 (zA0 (eVar 0) (zA0 (eVar 1) aNil))) (eVar 8)) zAd)
  (sRet (eVar 6)))))))))))
noncomputable def zC7:Fn:=zAg 2 9 zE2
noncomputable def zDd:SM:=
  (sSeq (sSet 1 (eOp ixD (eLst (zA0 (eC (.int 2)) (zA0 (eC (.int 2)) (zA0 (eC (.int 2)) (zA0 (eC (.int 1000)) aNil))))) (zA3 zA2 (zA0 (eVar 0) (zA0 (eC (.int 4)) aNil)))))
  (sRet (eTup (zA0 (eOp subD (zA3 zA2 (zA0 (eVar 0) (zA0 (eOp addD (eOp mulD (eC (.int 2)) (eVar 1)) (eC (.int 1))) aNil))) (eVar 1)) (zA0 (eOp subD (zA3 zA2 (zA0 (eVar 0) (zA0 (eOp addD (eOp mulD (eC (.int 2)) (eVar 1)) (eC (.int 1))) aNil))) (eVar 1)) aNil)))))
noncomputable def zBz:Fn:=zAg 1 2 zDd
noncomputable def zCy:SM:=
  (sSeq (sUnp (gTup [(gName 1),(gName 2),(gName 3),(gName 4)]) (zAv 1 [0] (zBx (zA0 (eC (.int 4)) aNil)) (gName 0) tYes (eOp subD (zA3 zA2 (zA0 (eVar 1) (zA0 (eC (.int 19)) aNil))) (eC (.int 9)))))
  (sSeq (sIf (tB (eOp eqI (eOp mulD (eVar 1) (eVar 4)) (eOp mulD (eVar 2) (eVar 3)))) (sRet (eTup (zA0 (eCB max2B (zA0 (eC (.int 1)) (zA0 (eCB absB (zA0 (eVar 1) aNil)) aNil))) (zA0 (eC (.int 0)) (zA0 (eVar 3) (zA0 (eCB max2B (zA0 (eC (.int 1)) (zA0 (eCB absB (zA0 (eVar 4) aNil)) aNil))) aNil)))))) zAd)
  (sRet (eTup (zA0 (eVar 1) (zA0 (eVar 2) (zA0 (eVar 3) (zA0 (eVar 4) aNil))))))))
noncomputable def zCv:Fn:=zAg 1 5 zCy
noncomputable def zE1 (r:Fn):SM:=
  (sSeq (sSet 5 (eOp addD (eC (.int 1)) (zA3 zA2 (zA0 (eVar 0) (zA0 (eCB min2B (zA0 (eC (.int 9)) (zA0 (eVar 1) aNil))) aNil)))))
  (sSeq (sSet 6 (eNew (eLst aNil)))
  (sSeq (sSet 7 (eVar 1))
  (sSeq (sFor (zBx (zA0 (eVar 5) aNil)) (gName 8) (sSeq (sSet 9 (eOp addD (eC (.int 1)) (zA3 zA2 (zA0 (eVar 0) (zA0 (eOp subD (eVar 7) (eOp subD (eOp subD (eVar 5) (eC (.int 1))) (eVar 8))) aNil)))))
  (sSeq (sSet 7 (eOp subD (eVar 7) (eVar 9)))
  (zAp (eMt "list" zAi (eVar 6) (zA0 (zA3 r (zA0 (eVar 0) (zA0 (eVar 9) (zA0 (eVar 2) (zA0 (eVar 3) (zA0 (eVar 4) aNil)))))) aNil))))))
  (sRet (eCB zCn (zA0 (eVar 6) aNil)))))))
noncomputable def zC6 (r:Fn):Fn:=zAg 5 10 (zE1 r)
noncomputable def zC1 (r:Fn):SM:=
  (sSeq (sSet 5 (zA3 zA2 (zA0 (eVar 0) (zA0 (eC (.int 9)) aNil))))
  (sSeq (sIf (tOr (tB (eOp ltN (eVar 1) (eC (.int 2)))) (tOr (tB (eOp ltN (eVar 2) (eC (.int 2)))) (tB (eOp eqI (eVar 5) (eC (.int 0)))))) (sSeq (sIf (tAnd (tB (eOp gtD (eCB lenB (zA0 (eVar 4) aNil)) (eC (.int 0)))) (tB (eOp gtD (zA3 zA2 (zA0 (eVar 0) (zA0 (eC (.int 3)) aNil))) (eC (.int 0))))) (sRet (eTup (zA0 (eC (.str (PySem.Str.ofString "name"))) (zA0 (eOp ixD (eVar 4) (zA3 zA2 (zA0 (eVar 0) (zA0 (eCB lenB (zA0 (eVar 4) aNil)) aNil)))) aNil)))) zAd)
  (sRet (eOp addD (eTup (zA0 (eC (.str (PySem.Str.ofString "cell"))) aNil)) (zA3 zBz (zA0 (eVar 0) aNil))))) zAd)
  (sSeq (sIf (tB (eOp ltN (eVar 5) (eC (.int 3)))) (sSeq (sSet 6 (zA3 zBz (zA0 (eVar 0) aNil)))
  (sRet (eTup (zA0 (eC (.str (PySem.Str.ofString "at"))) (zA0 (eOp ixD (eVar 6) (eC (.int 0))) (zA0 (eOp ixD (eVar 6) (eC (.int 1))) (zA0 (zA3 r (zA0 (eVar 0) (zA0 (eOp subD (eVar 1) (eC (.int 1))) (zA0 (eOp subD (eVar 2) (eC (.int 1))) (zA0 (eVar 3) (zA0 (eVar 4) aNil)))))) aNil))))))) zAd)
  (sSeq (sIf (tB (eOp eqI (eVar 5) (eC (.int 3)))) (sRet (eTup (zA0 (eC (.str (PySem.Str.ofString "by"))) (zA0 (zA3 zCv (zA0 (eVar 0) aNil)) (zA0 (zA3 r (zA0 (eVar 0) (zA0 (eOp subD (eVar 1) (eC (.int 1))) (zA0 (eOp subD (eVar 2) (eC (.int 1))) (zA0 (eVar 3) (zA0 (eVar 4) aNil)))))) aNil))))) zAd)
  (sSeq (sIf (tAnd (tB (eOp eqI (eVar 5) (eC (.int 4)))) (tAnd (tB (eOp gtD (eVar 3) (eC (.int 0)))) (tB (eOp gtD (eVar 1) (eC (.int 2)))))) (sSeq (sSet 7 (eOp addD (eC (.int 1)) (zA3 zA2 (zA0 (eVar 0) (zA0 (eOp subD (eVar 1) (eC (.int 2))) aNil)))))
  (sSeq (sSet 8 (zA3 r (zA0 (eVar 0) (zA0 (eVar 7) (zA0 (eOp subD (eVar 2) (eC (.int 1))) (zA0 (eOp subD (eVar 3) (eC (.int 1))) (zA0 (eVar 4) aNil)))))))
  (sRet (eTup (zA0 (eC (.str (PySem.Str.ofString "then"))) (zA0 (eVar 8) (zA0 (zA3 r (zA0 (eVar 0) (zA0 (eOp subD (eOp subD (eVar 1) (eC (.int 1))) (eVar 7)) (zA0 (eOp subD (eVar 2) (eC (.int 1))) (zA0 (eOp subD (eVar 3) (eC (.int 1))) (zA0 (eVar 4) aNil)))))) aNil))))))) zAd)
  (sSeq (sSet 9 (zA3 (zC6 r) (zA0 (eVar 0) (zA0 (eOp subD (eVar 1) (eC (.int 1))) (zA0 (eOp subD (eVar 2) (eC (.int 1))) (zA0 (eVar 3) (zA0 (eVar 4) aNil)))))))
  (sSeq (sIf (tB (eOp ltN (eVar 5) (eC (.int 7)))) (sRet (eTup (zA0 (eOp ixD (eLst (zA0 (eC (.str (PySem.Str.ofString "all"))) (zA0 (eC (.str (PySem.Str.ofString "any"))) aNil))) (eOp modD (eVar 5) (eC (.int 2)))) (zA0 (eVar 9) aNil)))) zAd)
  (sRet (eTup (zA0 (eC (.str (PySem.Str.ofString "least"))) (zA0 (eOp addD (eC (.int 1)) (zA3 zA2 (zA0 (eVar 0) (zA0 (eCB lenB (zA0 (eVar 9) aNil)) aNil)))) (zA0 (eVar 9) aNil))))))))))))
noncomputable def zB6:Nat->Fn
 | 0=>zAg 5 10 zJv
 | n+1=>zAg 5 10 (zC1 (zB6 n))
noncomputable def zAy:Fn:=zB6 11
noncomputable def zE3:SM:=
  (sSeq (sUnp (gTup [(gName 2),(gName 3)]) (zAv 1 [0] (zBx (zA0 (eC (.int 2)) aNil)) (gName 0) tYes (eOp ixD (eLst (zA0 (eOp subD (eC (.int 0)) (eC (.int 9999))) (zA0 (eC (.int 9999)) (zA0 (eC (.int 1000)) (zA0 (eOp subD (eC (.int 0)) (eC (.int 1000))) aNil))))) (zA3 zA2 (zA0 (eVar 1) (zA0 (eC (.int 4)) aNil))))))
  (sSeq (sSet 4 (eOp ixD (eLst (zA0 (eOp addD (eC (.int 1)) (zA3 zA2 (zA0 (eVar 0) (zA0 (eC (.int 4)) aNil)))) (zA0 (eOp addD (eC (.int 10)) (zA3 zA2 (zA0 (eVar 0) (zA0 (eC (.int 11)) aNil)))) aNil))) (zA3 zA2 (zA0 (eVar 0) (zA0 (eC (.int 2)) aNil)))))
  (sSeq (sSet 5 (eSl slD (eOp mulT (eTup (zA0 (eVar 1) (zA0 (eVar 1) (zA0 (eTup (zA0 (eC (.str (PySem.Str.ofString "at"))) (zA0 (eVar 2) (zA0 (eVar 3) (zA0 (eTup (zA0 (eC (.str (PySem.Str.ofString "cell"))) (zA0 (eVar 3) (zA0 (eVar 2) aNil)))) aNil))))) (zA0 (eVar 1) aNil))))) (eC (.int 5))) pNo (pYes (eVar 4))))
  (sRet (eTup (zA0 (eC (.str (PySem.Str.ofString "least"))) (zA0 (eOp addD (eC (.int 1)) (zA3 zA2 (zA0 (eVar 0) (zA0 (eCB lenB (zA0 (eVar 5) aNil)) aNil)))) (zA0 (eVar 5) aNil))))))))
noncomputable def zBa:Fn:=zAg 2 6 zE3
noncomputable def zPi:SM:=
  (sSeq (sSet 2 (eOp ixD (eVar 0) (eVar 1)))
  (sSeq (sIf (tB (eOp inD (eVar 2) (eTup (zA0 (eC (.str (PySem.Str.ofString "all"))) (zA0 (eC (.str (PySem.Str.ofString "any"))) (zA0 (eC (.str (PySem.Str.ofString "then"))) aNil)))))) (sRet (eTup (zA0 (eVar 2) aNil))) zAd)
  (sSeq (sIf (tTru (zA3 zB7 (zA0 (eVar 2) (zA0 (eC (.int 2)) aNil)))) (sRet (eIf (tB (eOp geD (eCB intS (zA0 (eVar 2) aNil)) (eC (.int 1)))) (eTup (zA0 (eC (.str (PySem.Str.ofString "least"))) (zA0 (eCB intS (zA0 (eVar 2) aNil)) aNil))) (eC .non))) zAd)
  (sSeq (sIf (tOr (tB (eOp zDj (eVar 2) (eTup (zA0 (eC (.str (PySem.Str.ofString "at"))) (zA0 (eC (.str (PySem.Str.ofString "by"))) aNil))))) (tB (eOp neLS (eSl slD (eVar 0) (pYes (eOp addD (eVar 1) (eC (.int 3)))) (pYes (eOp addD (eVar 1) (eC (.int 4))))) (eLst (zA0 (eC (.str (PySem.Str.ofString " "))) aNil))))) (sRet (eC .non)) zAd)
  (sSeq (sSet 3 (zA3 zAn (zA0 (eOp ixD (eVar 0) (eOp addD (eVar 1) (eC (.int 2)))) (zA0 (eIf (tB (eOp eqY (eVar 2) (eC (.str (PySem.Str.ofString "at"))))) (eC (.int 2)) (eC (.int 4))) (zA0 (eC (.int 4)) aNil)))))
  (sSeq (sIf (tB (eOp isD (eVar 3) (eC .non))) (sRet (eC .non)) zAd)
  (sSeq (sIf (tB (eOp eqY (eVar 2) (eC (.str (PySem.Str.ofString "at"))))) (sRet (eOp addD (eTup (zA0 (eVar 2) aNil)) (eVar 3))) zAd)
  (sRet (eIf (tB (eOp neK (zA3 zC4 (zA0 (eVar 3) aNil)) (eC (.int 0)))) (eTup (zA0 (eVar 2) (zA0 (eVar 3) aNil))) (eC .non))))))))))
noncomputable def zCu:Fn:=zAg 2 4 zPi
noncomputable def zPg:SM:=
  (sSeq (sIf (tTru (zA3 zEp (zA0 (eVar 0) aNil))) (sRet (eTup (zA0 (eC (.str (PySem.Str.ofString "name"))) (zA0 (eVar 0) aNil)))) zAd)
  (sSeq (sSet 1 (zA3 zAn (zA0 (eVar 0) (zA0 (eC (.int 2)) (zA0 (eC (.int 4)) aNil)))))
  (sRet (eIf (tB (eOp isD (eVar 1) (eC .non))) (eC .non) (eOp addD (eTup (zA0 (eC (.str (PySem.Str.ofString "cell"))) aNil)) (eVar 1))))))
noncomputable def zCt:Fn:=zAg 1 2 zPg
noncomputable def zF7:SM:=
  (sRet (eMt "str" joinM (eC (.str (PySem.Str.ofString ","))) (zA0 (zAv 1 [] (iVal (eVar 0)) (gName 0) tYes (zA3 zBp (zA0 (eVar 0) aNil))) aNil)))
noncomputable def zAj:Fn:=zAg 1 1 zF7
noncomputable def zI4:SM:=
  (sSeq (sSet 1 (zA3 zBl (zA0 (eVar 0) aNil)))
  (sSeq (sSet 2 (eNew (eLst aNil)))
  (sSeq (sSet 3 (eNew (eLst (zA0 (eNew (eLst aNil)) aNil))))
  (sSeq (sSet 4 (eC (.int 0)))
  (sSeq (zC2 (tB (eOp ltN (eVar 4) (eCB lenB (zA0 (eVar 1) aNil)))) (sIf (tB (eOp eqLS (eSl slD (eVar 1) (pYes (eOp addD (eVar 4) (eC (.int 1)))) (pYes (eOp addD (eVar 4) (eC (.int 2))))) (eLst (zA0 (eC (.str (PySem.Str.ofString "("))) aNil)))) (sSeq (sSet 5 (zA3 zCu (zA0 (eVar 1) (zA0 (eVar 4) aNil))))
  (sSeq (sIf (tB (eOp isD (eVar 5) (eC .non))) (sRet (eC .non)) zAd)
  (sSeq (zAp (eMt "list" zAi (eVar 2) (zA0 (eVar 5) aNil)))
  (sSeq (zAp (eMt "list" zAi (eVar 3) (zA0 (eNew (eLst aNil)) aNil)))
  (sSet 4 (eOp addD (eVar 4) (eIf (tB (eOp inD (eOp ixD (eVar 5) (eC (.int 0))) (eTup (zA0 (eC (.str (PySem.Str.ofString "at"))) (zA0 (eC (.str (PySem.Str.ofString "by"))) aNil))))) (eC (.int 4)) (eC (.int 2))))))))) (sSeq (sSet 6 (zA3 zCt (zA0 (eOp ixD (eVar 1) (eVar 4)) aNil)))
  (sSeq (sIf (tB (eOp isD (eVar 6) (eC .non))) (sRet (eC .non)) zAd)
  (sSeq (zAp (eMt "list" zAi (eOp ixD (eVar 3) (eUn negD (eC (.int 1)))) (zA0 (eVar 6) aNil)))
  (sSeq (sSet 4 (zA3 zBf (zA0 (eVar 1) (zA0 (eOp addD (eVar 4) (eC (.int 1))) (zA0 (eVar 2) (zA0 (eVar 3) aNil))))))
  (sIf (tB (eOp isD (eVar 4) (eC .non))) (sRet (eC .non)) zAd)))))))
  (sRet (eIf (tAnd (tTru (eOp ixD (eVar 3) (eC (.int 0)))) (tNot (tTru (eVar 2)))) (eOp ixD (eOp ixD (eVar 3) (eC (.int 0))) (eC (.int 0))) (eC .non))))))))
noncomputable def zDn:Fn:=zAg 1 7 zI4
noncomputable def zM2:SM:=
  (sSeq (sSet 1 (eOp ixD (eVar 0) (eC (.int 0))))
  (sSeq (sIf (tB (eOp eqY (eVar 1) (eC (.str (PySem.Str.ofString "cell"))))) (sRet (zA3 zAj (zA0 (eSl slD (eVar 0) (pYes (eC (.int 1))) pNo) aNil))) zAd)
  (sSeq (sIf (tB (eOp eqY (eVar 1) (eC (.str (PySem.Str.ofString "name"))))) (sRet (eOp ixD (eVar 0) (eC (.int 1)))) zAd)
  (sSeq (sIf (tB (eOp eqY (eVar 1) (eC (.str (PySem.Str.ofString "least"))))) (sRet (eOp addD (zA3 zAj (zA0 (eSl slD (eVar 0) (pYes (eC (.int 1))) (pYes (eC (.int 2)))) aNil)) (eC (.str (PySem.Str.ofString "("))))) zAd)
  (sSeq (sIf (tB (eOp eqY (eVar 1) (eC (.str (PySem.Str.ofString "at"))))) (sRet (eOp addD (eOp addD (eC (.str (PySem.Str.ofString "at("))) (zA3 zAj (zA0 (eSl slD (eVar 0) (pYes (eC (.int 1))) (pYes (eC (.int 3)))) aNil))) (eC (.str (PySem.Str.ofString " "))))) zAd)
  (sSeq (sIf (tB (eOp eqY (eVar 1) (eC (.str (PySem.Str.ofString "by"))))) (sRet (eOp addD (eOp addD (eC (.str (PySem.Str.ofString "by("))) (zA3 zAj (zA0 (eOp ixD (eVar 0) (eC (.int 1))) aNil))) (eC (.str (PySem.Str.ofString " "))))) zAd)
  (sRet (eOp addD (eVar 1) (eC (.str (PySem.Str.ofString "(")))))))))))
noncomputable def zD3:Fn:=zAg 1 2 zM2
noncomputable def zJ9:SM:=
  (sSeq (neS (sSet 1 (zA3 zDn (zA0 (eVar 0) aNil))))
  (sSeq (sIf (neR (tB (eOp isD (eVar 1) (eC .non)))) (zMm (mkX 51 (PySem.Str.ofString "row")) (zA0 (eC (.int 0)) aNil)) zAd)
  (neS (sRet (eVar 1)))))
noncomputable def zCg:Fn:=zAg 1 2 zJ9
noncomputable def zJ8:SM:=
  (sSeq (sSet 1 (eNew (eLst aNil)))
  (sSeq (sSet 2 (eNew (eLst (zA0 (eVar 0) aNil))))
  (sSeq (zC2 (tTru (eVar 2)) (sSeq (sSet 3 (eMt "list" popM (eVar 2) aNil))
  (sIf (tTru (eCB isiB (zA0 (eVar 3) (zA0 (eC (.ty "str")) aNil)))) (zAp (eMt "list" zAi (eVar 1) (zA0 (eVar 3) aNil))) (sSeq (zAp (eMt "list" zAi (eVar 1) (zA0 (zA3 zD3 (zA0 (eVar 3) aNil)) aNil)))
  (zAp (eMt "list" zB8 (eVar 2) (zA0 (eUn revL (zA3 zAx (zA0 (eVar 3) aNil))) aNil)))))))
  (sRet (eMt "str" joinM (eC (.str (PySem.Str.ofString ""))) (zA0 (eVar 1) aNil))))))
noncomputable def zBk:Fn:=zAg 1 4 zJ8
noncomputable def zI5:SM:=
  (sSeq (sSet 2 (zA3 zDc (zA0 (eVar 0) aNil)))
  (sSeq (sIf (tAnd (tNot (tTru (eVar 1))) (tNot (tTru (zA3 zAs (zA0 (zA3 zBk (zA0 (eVar 0) aNil)) (zA0 (eVar 2) aNil)))))) (sRet (eC (.bl false))) zAd)
  (sSeq (sSet 3 (zA3 (neF zCg) (zA0 (eVar 2) aNil)))
  (sRet (eAnd (zA3 zAs (zA0 (eVar 3) (zA0 (eVar 0) aNil))) (zA3 zAs (zA0 (zA3 zBk (zA0 (eVar 3) aNil)) (zA0 (eVar 2) aNil))))))))
noncomputable def zC5:Fn:=zAg 2 4 zI5
noncomputable def zWz:SM:=
  (sSeq (sSet 1 (eNew (eLst aNil)))
  (sSeq (sFor (zBx (zA0 (eCB max2B (zA0 (eC (.int 2)) (zA0 (eCB min2B (zA0 (eC (.int 4)) (zA0 (eCB lenB (zA0 (eVar 0) aNil)) aNil))) aNil))) aNil)) (gName 2) (sSeq (sSet 3 (zA3 zCh (zA0 (eVar 0) (zA0 (eVar 2) aNil))))
  (sSeq (sSet 4 (zA3 zC7 (zA0 (eVar 3) (zA0 (eC (.int 6)) aNil))))
  (sSeq (sSet 5 (eOp ixD (eLst (zA0 (eOp addD (eC (.int 1)) (zA3 zA2 (zA0 (eVar 3) (zA0 (eC (.int 12)) aNil)))) (zA0 (eC (.int 60)) aNil))) (eCB intB (zA0 (eOp eqI (zA3 zA2 (zA0 (eVar 3) (zA0 (eC (.int 4)) aNil))) (eC (.int 1))) aNil))))
  (sSeq (sSet 6 (zA3 zAy (zA0 (eVar 3) (zA0 (eVar 5) (zA0 (eC (.int 10)) (zA0 (eC (.int 2)) (zA0 (eVar 4) aNil)))))))
  (zAp (eMt "list" zB8 (eVar 1) (zA0 (eLst (zA0 (eTup (zA0 (eVar 6) (zA0 (eC (.bl false)) aNil))) (zA0 (eTup (zA0 (zA3 zBa (zA0 (eVar 3) (zA0 (zA3 zAy (zA0 (eVar 3) (zA0 (eC (.int 5)) (zA0 (eC (.int 5)) (zA0 (eC (.int 1)) (zA0 (eVar 4) aNil)))))) aNil))) (zA0 (eC (.bl true)) aNil))) aNil))) aNil))))))))
  (sRet (eCB allB (zA0 (zAv 2 [] (iVal (eOp addD (eVar 1) (eUn revS (eVar 1)))) (gTup [(gName 0),(gName 1)]) tYes (zA3 zC5 (zA0 (eVar 0) (zA0 (eVar 1) aNil)))) aNil)))))
noncomputable def zLg:Fn:=zAg 1 7 zWz
end
end DP
namespace TS
open PySem
abbrev zE4(h:Heap)(z TI TO T:Addr)(f:Bool):Prop:=h.get? z=some { cls:=.type "zip",dict:=none,data:=.fields #[rawInt T,.bool f,.bool false,.ref TI,.ref TO],slots:=#[] }
section
variable {prog:Program}{w:World}{A:Around}{E:Value->Shared->Prop}{s:Shared}
theorem alive{Q:Option Obj->Shared->Prop}(ho:s.heap.get? a=some o)(h:Q (some o) s):wpAny (model prog w) A (loadIfAlive a) Q E s:=by
 have h':Q (s.heap.get? a) s:=by rw[ho];exact h
 exact λ_ _ _=>h'
theorem zJy{Q:Bool->Shared->Prop}(hz:zE4 s.heap z TI TO T f)(hT:s.heap.get? T=some o)(h:∀h',zE4 h' z TI TO T true->Heap.SameBut z s.heap h'->Q false { s with heap:=h' }):wpAny (model prog w) A (Builtin.SmallTypes.ownedTupleIsFree (.ref z)) Q E s:=by
 unfold Builtin.SmallTypes.ownedTupleIsFree;refine xa (xF hz rfl (x:=rawInt T) rfl ?_);show wpAny _ _ (loadIfAlive ((T:Int).toNat) >>= _) _ _ _;rw[vT];refine xa (alive hT ?_);simp only[Option.isNone_some,vi,xZ];refine xa (xF hz rfl (x:=.bool f) rfl ?_);cases f with
 | true=>
  rw[xf (by decide)];exact xg (h s.heap hz (Heap.SameBut.refl ..))
 | false=>
  rw[xc (by decide)];refine xa (uc hz (by simp) λg1 z1 s1=>xg ?_);exact h g1 z1 s1
theorem zTb{b1 b2 f:Bool}{T:Addr}{o:Obj}{k1 k2:Nat}{xs ys:Array Value}{x y:Value}{Q:Option Value->Shared->Prop}(D:ZipApart z TI TO i1 i2 l1 l2)
  (hz:zE4 s.heap z TI TO T f) (hT:s.heap.get? T=some o) (hTI:IsPair s.heap TI (.ref i1) (.ref i2)) (h1:KIt b1 s.heap i1 l1 k1) (h2:KIt b2 s.heap i2 l2 k2) (q1:KSq b1 s.heap l1 xs) (q2:KSq b2 s.heap l2 ys) (hx:xs[k1]?=some x) (hy:ys[k2]?=some y)
  (hQ:∀h',zE4 h' z TI TO T true->KIt b1 h' i1 l1 (k1+1)->KIt b2 h' i2 l2 (k2+1)->IsPair h' s.heap.objs.size x y->(∀c o,c≠z->c≠i1->c≠i2->s.heap.get? c=some o->h'.get? c=some o)->Q (some (.ref s.heap.objs.size)) { s with heap:=h' }):
  wpAny (model prog w) A (pyNext (.ref z)) Q E s:=by
 have hTy:s.TypeIs (.ref z) "zip":=⟨_,hz,rfl⟩;unfold pyNext;refine xa (wpAny_attempt (vD (name:=Str.ofString "__next__") hTy vU (vA vU hTy F.entry_zip_next ?_ (F.args_zip_next_1 _))));refine(show wpAny _ _ (field (.ref z) 2 >>= _) _ _ _ from xa (xF hz rfl (x:=.bool false) rfl (show wpAny _ _ (field (.ref z) 3 >>= _) _ _ _ from xa (xF hz rfl (x:=.ref TI) rfl (xa (vw hTI rfl (show wpAny _ _ (Builtin.SmallTypes.ownedTupleIsFree (.ref z) >>= _) _ _ _ from xa (zJy hz hT λg1 z1 s1=>?_))))))));simp only[vi,xZ];rw[<- Array.forIn_toList];simp only[ua,uw];refine xa (xa (xa (xS (show wpAny _ _ (Builtin.SmallTypes.nextOf (.ref i1) >>= _) _ _ _ from xa (next_item (h1.xb s1.extBut D.i1z) (q1.xb s1.extBut D.l1z) hx λg2 h12 s2=>xg ?_)))));refine xg ?_;dsimp only;refine xa (xa (xS (show wpAny _ _ (Builtin.SmallTypes.nextOf (.ref i2) >>= _) _ _ _ from xa (next_item ((h2.xb s1.extBut D.i2z).xb s2.extBut D.i12.symm) ((q2.xb s1.extBut D.l2z).xb s2.extBut D.l2i1) hy λg3 h23 s3=>xg ?_))));refine xg (xg ?_);dsimp only;have sz:g3.objs.size=s.heap.objs.size:=by rw[s3.1,s2.1,s1.1]
 refine xa (wpAny_newTuple (s:={ s with heap:=g3 }) ?_ (by show 2<=sizeLine;decide));have k3:∀c o,c≠z->c≠i1->c≠i2->s.heap.get? c=some o->g3.get? c=some o:=λc o c1 c3 c4 e=>s3.extBut _ _ c4 (s2.extBut _ _ c3 (s1.extBut _ _ c1 e))
 have z3:zE4 g3 z TI TO T true:=s3.extBut _ _ D.i2z.symm (s2.extBut _ _ D.i1z.symm z1);have a3:KIt b1 g3 i1 l1 (k1+1):=h12.xb s3.extBut D.i12;refine xg ⟨_,rfl,xg ?_⟩;show Q (some (.ref g3.objs.size)) { s with heap:=g3.push { cls:=.type "tuple",data:=.seq #[x,y] } };rw[sz];refine hQ _ (xm _ z3) (a3.at λo e=>xm _ e) (h23.at λo e=>xm _ e) ?_ λc o c1 c3 c4 e=>xm _ (k3 c o c1 c3 c4 e)
 have:=xD g3 (o:={ cls:=.type "tuple",data:=.seq #[x,y] }) rfl;rw[sz]at this;exact this
theorem zX5{b1 b2 f:Bool}{T:Addr}{o:Obj}{k1 k2:Nat}{xs ys:Array Value}{Q:Option Value->Shared->Prop}(hh:A.handled=none)(D:ZipApart z TI TO i1 i2 l1 l2)
  (hz:zE4 s.heap z TI TO T f) (hT:s.heap.get? T=some o) (hTI:IsPair s.heap TI (.ref i1) (.ref i2)) (h1:KIt b1 s.heap i1 l1 k1) (h2:KIt b2 s.heap i2 l2 k2) (q1:KSq b1 s.heap l1 xs) (q2:KSq b2 s.heap l2 ys) (hend:xs[k1]?=none\/ys[k2]?=none)
  (hQ:∀h',(∀c o,c≠z->c≠i1->c≠i2->s.heap.get? c=some o->h'.get? c=some o)->Q none { s with heap:=h' }):wpAny (model prog w) A (pyNext (.ref z)) Q E s:=by
 have hTy:s.TypeIs (.ref z) "zip":=⟨_,hz,rfl⟩;unfold pyNext;have stop:∀(g:Heap) (e:Addr),(∀c o,c≠z->c≠i1->c≠i2->s.heap.get? c=some o->g.get? c=some o)->(∃o,g.get? e=some o/\o.cls=.type "StopIteration")->wpAny (model prog w) A (do
   let b <- isInstance (.ref e) (.type "StopIteration")
   if b=true then pure none else throw (.ref e)) Q E { s with heap:=g }:=λg e kp hz2=>by obtain⟨o,ho,hc⟩:=hz2;exact xa (uF (b:=true) (T:="StopIteration") ⟨o,ho,hc⟩ isSubtype_stop (xg (hQ _ kp)))
 refine xa (wpAny_attempt (vD (name:=Str.ofString "__next__") hTy vU (vA vU hTy F.entry_zip_next ?_ (F.args_zip_next_1 _))));refine(show wpAny _ _ (field (.ref z) 2 >>= _) _ _ _ from xa (xF hz rfl (x:=.bool false) rfl (show wpAny _ _ (field (.ref z) 3 >>= _) _ _ _ from xa (xF hz rfl (x:=.ref TI) rfl (xa (vw hTI rfl (show wpAny _ _ (Builtin.SmallTypes.ownedTupleIsFree (.ref z) >>= _) _ _ _ from xa (zJy hz hT λg1 z1 s1=>?_))))))));simp only[vi,xZ];rw[<- Array.forIn_toList];simp only[ua,uw];have hhi:A.in1.handled=none:=hh;refine xa (xa (xa (xS (show wpAny _ _ (Builtin.SmallTypes.nextOf (.ref i1) >>= _) _ _ _ from xa ?_))));cases hx:xs[k1]? with
 | none=>
  refine next_end hhi (h1.xb s1.extBut D.i1z) (q1.xb s1.extBut D.l1z) hx λg2 e s2 he=>?_
  exact stop g2 e (λc o c1 c3 _ x=>s2 _ _ c3 (s1.extBut _ _ c1 x)) he
 | some x=>
  have hy:ys[k2]?=none:=by rcases hend with h|h;rw[hx]at h;cases h;exact h
  refine next_item (h1.xb s1.extBut D.i1z) (q1.xb s1.extBut D.l1z) hx λg2 h12 s2=>xg ?_
  refine xg ?_;dsimp only;refine xa (xa (xS (show wpAny _ _ (Builtin.SmallTypes.nextOf (.ref i2) >>= _) _ _ _ from xa (next_end hhi ((h2.xb s1.extBut D.i2z).xb s2.extBut D.i12.symm) ((q2.xb s1.extBut D.l2z).xb s2.extBut D.l2i1) hy λg4 e s4 he=>?_))));exact stop g4 e (λc o c1 c3 c4 x=>s4 _ _ c4 (s2.extBut _ _ c3 (s1.extBut _ _ c1 x))) he
end
noncomputable abbrev own6 (z TI TO i1 i2 S:Addr):List Addr:=[z,TI,TO,i1,i2,S]
structure ZS (b1 b2:Bool) (h0:Heap) (z TI TO i1 i2 l1 l2 S:Addr) (xs ys:Array Value) (i:Nat) (h:Heap) (Ts:List (Addr × Value × Value)):Prop where
 zip:IsZip h z TI TO .none\/∃T f o,zE4 h z TI TO T f/\h.get? T=some o/\T≠S
 ti:IsPair h TI (.ref i1) (.ref i2)
 tu:∃p q,IsPair h TO p q
 k1:KIt b1 h i1 l1 i
 k2:KIt b2 h i2 l2 i
 q1:KSq b1 h l1 xs
 q2:KSq b2 h l2 ys
 kp:∀c o,h0.get? c=some o->h.get? c=some o
 len:Ts.length=i
 at_:∀(j:Nat) (t:Addr × Value × Value),Ts[j]?=some t->xs[j]?=some t.2.1/\ys[j]?=some t.2.2/\IsPair h t.1 t.2.1 t.2.2
 ord:Ts.Pairwise λa b=>a.1<b.1
 apt:∀t∈Ts,h0.objs.size<=t.1/\t.1 ∉ own6 z TI TO i1 i2 S
 own:∀a∈own6 z TI TO i1 i2 S,h0.objs.size<=a
 sz:h0.objs.size<=h.objs.size
section
variable {prog:Program}{w:World}{A:Around}{E:Value->Shared->Prop}{s:Shared}{b1 b2:Bool}{h0:Heap}{z TI TO i1 i2 l1 l2 S:Addr}{xs ys:Array Value}{i:Nat}{Ts:List (Addr × Value × Value)}
theorem ZS.frame{h h':Heap}(x:ZS b1 b2 h0 z TI TO i1 i2 l1 l2 S xs ys i h Ts)(hS:S ∉ [z,TI,TO,i1,i2])(n1:l1≠S)(n2:l2≠S)(hz:h.objs.size<=h'.objs.size)(k:∀b o,b≠S->h.get? b=some o->h'.get? b=some o):ZS b1 b2 h0 z TI TO i1 i2 l1 l2 S xs ys i h' Ts:=by
 simp only[xr,xJ,xK,not_or]at hS;refine⟨?_,k _ _ (xA hS.2.1) x.ti,?_,x.k1.at λo e=>k _ o (xA hS.2.2.2.1) e,x.k2.at λo e=>k _ o (xA hS.2.2.2.2) e,x.q1.at λo e=>k _ o n1 e,x.q2.at λo e=>k _ o n2 e,λc o e=>k c o (λz=>?_) (x.kp c o e),x.len,λj t e=>?_,x.ord,x.apt,x.own,xq x.sz hz⟩
 ·rcases x.zip with q|⟨T,f,o,q1,q2,q3⟩
  ·exact .inl (k _ _ (xA hS.1) q)
  ·exact .inr ⟨T,f,o,k _ _ (xA hS.1) q1,k _ _ q3 q2,q3⟩
 ·obtain⟨p,q,e⟩:=x.tu;exact⟨p,q,k _ _ (xA hS.2.2.1) e⟩
 ·exact xy (xw (xn e) (x.own S (by simp))) z
 ·obtain⟨a1,a2,a3⟩:=x.at_ j t e;have:=(x.apt t (vz e)).2;simp only[xr,xJ,xK,not_or]at this;exact⟨a1,a2,k _ _ this.2.2.2.2.2 a3⟩
theorem ZS.item{Q:Option Value->Shared->Prop}(g:ZS b1 b2 h0 z TI TO i1 i2 l1 l2 S xs ys i s.heap Ts)(D:ZipApart z TI TO i1 i2 l1 l2)(hS:S ∉ [z,TI,TO,i1,i2])(hSs:S<s.heap.objs.size)(hx:xs[i]?=some x)(hy:ys[i]?=some y)
  (hQ:∀h',ZS b1 b2 h0 z TI TO i1 i2 l1 l2 S xs ys (i+1) h' (Ts++[(s.heap.objs.size,x,y)])->(∀o,s.heap.get? S=some o->h'.get? S=some o)->Q (some (.ref s.heap.objs.size)) { s with heap:=h' }):wpAny (model prog w) A (pyNext (.ref z)) Q E s:=by
 have hS':=hS;simp only[xr,xJ,xK,not_or]at hS';have zl:∀a o,s.heap.get? a=some o->a<s.heap.objs.size:=λa o e=>xn e
 obtain⟨p,q,hTO⟩:=g.tu;have lz:z<s.heap.objs.size:=by
  rcases g.zip with q|⟨T,f,o,q1,_⟩
  ·exact zl _ _ q
  ·exact zl _ _ q1
 have li1:i1<s.heap.objs.size:=by obtain⟨o,e,_⟩:=g.k1;exact zl _ _ e
 have li2:i2<s.heap.objs.size:=by obtain⟨o,e,_⟩:=g.k2;exact zl _ _ e
 have lTI:=zl _ _ g.ti;have lTO:=zl _ _ hTO;have done:∀h':Heap,(IsZip h' z TI TO .none\/∃T f o,zE4 h' z TI TO T f/\h'.get? T=some o/\T≠S)->(∃p q,IsPair h' TO p q)->KIt b1 h' i1 l1 (i+1)->KIt b2 h' i2 l2 (i+1)->IsPair h' s.heap.objs.size x y->(∀c o,c≠z->c≠TO->c≠i1->c≠i2->s.heap.get? c=some o->h'.get? c=some o)->Q (some (.ref s.heap.objs.size)) { s with heap:=h' }:=λh' c1 c2 c3 c4 c5 kk=>by
  refine hQ h' ⟨c1,kk _ _ D.TIz D.TITO D.TIi1 D.TIi2 g.ti,c2,c3,c4,g.q1.at λo e=>kk _ o D.l1z D.l1TO D.l1i1 D.l1i2 e,g.q2.at λo e=>kk _ o D.l2z D.l2TO D.l2i1 D.l2i2 e,λc o e=>?_,by rw[xk,g.len];rfl,λj t e=>?_,?_,λt ht=>?_,g.own,?_⟩ λo e=>kk _ o hS'.1 hS'.2.2.1 hS'.2.2.2.1 hS'.2.2.2.2 e
  ·have lc:=xn e;have ne:∀a,a∈own6 z TI TO i1 i2 S->c≠a:=λa ha=>xy (xw lc (g.own a ha))
   exact kk c o (ne _ (by simp)) (ne _ (by simp)) (ne _ (by simp)) (ne _ (by simp)) (g.kp c o e)
  ·rcases Nat.lt_or_ge j Ts.length with hj|hj
   ·rw[xN hj]at e;obtain⟨a1,a2,a3⟩:=g.at_ j t e;have:=(g.apt t (vz e)).2;simp only[xr,xJ,xK,not_or]at this;exact⟨a1,a2,kk _ _ this.1 this.2.2.1 this.2.2.2.1 this.2.2.2.2.1 a3⟩
   ·rw[xM hj]at e;have hj0:j-Ts.length=0:=by
     rcases Nat.lt_or_ge (j-Ts.length) 1 with q|q
     ·lia
     ·rw[x6 (by simpa using q)]at e;cases e
    rw[hj0]at e;cases e;have:j=i:=by have:=g.len;lia
    subst this;exact⟨hx,hy,c5⟩
  ·refine List.pairwise_append.mpr ⟨g.ord,List.pairwise_singleton _ _,λa ha b hb=>?_⟩;rw[xx.mp hb];obtain⟨j,hj,e⟩:=List.getElem_of_mem ha;have:=(g.at_ j a (by rw[xo hj,e])).2.2;exact zl _ _ this
  ·rcases xH.mp ht with ht|ht
   ·exact g.apt t ht
   ·rw[xx.mp ht];refine⟨g.sz,?_⟩;simp only[xr,xJ,xK,not_or];exact⟨xX lz,xX lTI,xX lTO,xX li1,xX li2,xX hSs⟩
  ·exact xq g.sz (vB (xn c5))
 have nS:s.heap.objs.size≠S:=xX hSs;rcases g.zip with hz|⟨T,f,o,hz,hT,nT⟩
 ·refine zTc D hz g.ti hTO g.k1 g.k2 g.q1 g.q2 hx hy λh' c1 c2 c3 c4 c5 kk=>?_
  exact done h' (.inr ⟨s.heap.objs.size,false,_,c1,c5,nS⟩) ⟨_,_,c2⟩ c3 c4 c5 kk
 ·refine zTb D hz hT g.ti g.k1 g.k2 g.q1 g.q2 hx hy λh' c1 c3 c4 c5 kk=>?_
  have hT':∃o',h'.get? T=some o':=by
   by_cases e1:T=z
   ·subst e1;exact⟨_,c1⟩
   ·by_cases e2:T=i1
    ·subst e2;obtain⟨o',e',_⟩:=c3;exact⟨o',e'⟩
    ·by_cases e3:T=i2
     ·subst e3;obtain⟨o',e',_⟩:=c4;exact⟨o',e'⟩
     ·exact⟨o,kk T o e1 e2 e3 hT⟩
  obtain⟨o',hT'⟩:=hT';exact done h' (.inr ⟨T,true,o',c1,hT',nT⟩) ⟨p,q,kk _ _ D.TOz D.TOi1 D.TOi2 hTO⟩ c3 c4 c5 λc o c1 _ c3 c4 e=>kk c o c1 c3 c4 e
theorem ZS.end_{Q:Option Value->Shared->Prop}(hh:A.handled=none)(g:ZS b1 b2 h0 z TI TO i1 i2 l1 l2 S xs ys i s.heap Ts)(D:ZipApart z TI TO i1 i2 l1 l2)(hx:xs[i]?=none\/ys[i]?=none)
  (hQ:∀h',(∀c o,c≠z->c≠TO->c≠i1->c≠i2->s.heap.get? c=some o->h'.get? c=some o)->Q none { s with heap:=h' }):wpAny (model prog w) A (pyNext (.ref z)) Q E s:=by
 obtain⟨p,q,hTO⟩:=g.tu;rcases g.zip with hz|⟨T,f,o,hz,hT,nT⟩
 ·exact zX6 hh D hz g.ti hTO g.k1 g.k2 g.q1 g.q2 hx hQ
 ·exact zX5 hh D hz hT g.ti g.k1 g.k2 g.q1 g.q2 hx λh' kk=>hQ h' λc o c1 _ c3 c4 e=>kk c o c1 c3 c4 e
theorem zPq{R:Result->Shared->Prop}(hh:A.handled=none)(D:ZipApart z TI TO i1 i2 l1 l2)(hS:S ∉ [z,TI,TO,i1,i2])(n1:l1≠S)(n2:l2≠S)(hn:xs.size<=sizeLine)(res:Value):
  ∀(k i:Nat) (s:Shared) (Ts:List (Addr × Value × Value)) (c:Nat),min xs.size ys.size-i=k->i<=min xs.size ys.size->ZS b1 b2 h0 z TI TO i1 i2 l1 l2 S xs ys i s.heap Ts->s.heap.get? S=some { cls:=.type "list",dict:=none,data:=.seq (Ts.map λt=>Value.ref t.1).toArray c,slots:=#[] }->
  (∀(h':Heap) (Ts':List (Addr × Value × Value)) (c':Nat),(∀c o,h0.get? c=some o->h'.get? c=some o)->h0.objs.size<=h'.objs.size->Ts'.length=min xs.size ys.size->(∀(j:Nat) (t:Addr × Value × Value),Ts'[j]?=some t->xs[j]?=some t.2.1/\ys[j]?=some t.2.2/\IsPair h' t.1 t.2.1 t.2.2)->Ts'.Pairwise (λa b=>a.1<b.1)->(∀t∈Ts',h0.objs.size<=t.1/\t.1≠S)->
   h'.get? S=some { cls:=.type "list",dict:=none,data:=.seq (Ts'.map λt=>Value.ref t.1).toArray c',slots:=#[] }->R (.ok (.ret res)) { s with heap:=h' })->
  codeAny (model prog w) A (.builtin "list.extend.loop" ⟨[.ref S,.ref z,res],[]⟩) R s:=by
 have hS':=hS;simp only[xr,xJ,xK,not_or]at hS';have hhi:A.in1.handled=none:=hh;intro k;induction k with
 | zero=>
  intro i s Ts c hk hi g hSl hR;refine codeAny_builtin F.entry_extend_loop ?_;rw[Around.under_plainId uG _];show wpAny _ A.in1 (pyNext (.ref z) >>= _) _ _ s;refine xa (g.end_ hhi D (by
   rcases Nat.le_total xs.size ys.size with q|q
   ·exact .inl (Array.getElem?_eq_none (by nofun))
   ·exact .inr (Array.getElem?_eq_none (by nofun))) λh' kk=>?_)
  refine xg (hR h' Ts c (λc o e=>?_) ?_ (by rw[g.len];lia) (λj t e=>?_) g.ord (λt ht=>?_) (kk _ _ hS'.1 hS'.2.2.1 hS'.2.2.2.1 hS'.2.2.2.2 hSl))
  ·have lc:=xn e;have ne:∀a,a∈own6 z TI TO i1 i2 S->c≠a:=λa ha=>xy (xw lc (g.own a ha))
   exact kk c o (ne _ (by simp)) (ne _ (by simp)) (ne _ (by simp)) (ne _ (by simp)) (g.kp c o e)
  ·have h1:=g.own S (by simp);exact xq h1 (vB (xn (kk _ _ hS'.1 hS'.2.2.1 hS'.2.2.2.1 hS'.2.2.2.2 hSl)))
  ·obtain⟨a1,a2,a3⟩:=g.at_ j t e;have:=(g.apt t (vz e)).2;simp only[xr,xJ,xK,not_or]at this;exact⟨a1,a2,kk _ _ this.1 this.2.2.1 this.2.2.2.1 this.2.2.2.2.1 a3⟩
  ·have:=g.apt t ht;simp only[xr,xJ,xK,not_or]at this;exact⟨this.1,this.2.2.2.2.2.2⟩
 | succ k ih=>
  intro i s Ts c hk hi g hSl hR;refine codeAny_builtin F.entry_extend_loop ?_;rw[Around.under_plainId uG _];show wpAny _ A.in1 (pyNext (.ref z) >>= _) _ _ s;have e1:xs[i]?=some (xs[i]'(by nofun)):=Array.getElem?_eq_getElem _;have e2:ys[i]?=some (ys[i]'(by nofun)):=Array.getElem?_eq_getElem _;refine xa (g.item D hS (xn hSl) e1 e2 λh' g' kS=>?_);have hS2:=kS _ hSl;show wpAny _ A.in1 (updateSeq S (·.push (.ref s.heap.objs.size)) >>= _) _ _ _;refine xa ?_;have asz:(Ts.map λt=>Value.ref t.1).toArray.size=i:=by simp[g.len]
  have ea:((Ts++[(s.heap.objs.size,xs[i]'(by nofun),ys[i]'(by nofun))]).map λt=>Value.ref t.1).toArray=(Ts.map λt=>Value.ref t.1).toArray.push (.ref s.heap.objs.size):=by simp
  obtain⟨c2,hu⟩:∃c2,(h'.update S (Obj.mapSeq (·.push (.ref s.heap.objs.size)))).get? S=some { cls:=.type "list",dict:=none,data:=.seq ((Ts++[(s.heap.objs.size,xs[i]'(by nofun),ys[i]'(by nofun))]).map λt=>Value.ref t.1).toArray c2,slots:=#[] }:=by rw[ea];exact⟨_,vF _ hS2 rfl⟩
  refine uH hS2 rfl (xg ⟨plainId_quiet uG _,ih (i+1) _ (Ts++[(s.heap.objs.size,xs[i]'(by nofun),ys[i]'(by nofun))]) c2 (by nofun) (by nofun) (g'.frame hS n1 n2 ?_ λb o hb e=>?_) ?_ λh2 Ts' c' q1 q2 q3 q4 q5 q6 q7=>?_⟩) (by rw[asz];lia) (by show((Ts.map λt=>Value.ref t.1).toArray.push _).size<=sizeLine+1;rw[Array.size_push,asz];lia)
  ·rw[Heap.size_update];exact xh _
  ·exact(vh _ _ (xA hb)).trans e
  ·exact hu
  ·exact hR h2 Ts' c' q1 q2 q3 q4 q5 q6 q7
end
theorem zN9:typeLookup (.type "zip") "__len__"=pure none:=by rw[typeLookup_type,uU];kernel_rfl
theorem zL4:typeLookup (.type "zip") "__length_hint__"=pure none:=by rw[typeLookup_type,uU];kernel_rfl
section
variable {prog:Program}{w:World}{A:Around}{E:Value->Shared->Prop}{s:Shared}{b1 b2:Bool}{h0:Heap}{z TI TO i1 i2 l1 l2 S:Addr}{xs ys:Array Value}{i:Nat}{Ts:List (Addr × Value × Value)}
theorem zLh{R:Result->Shared->Prop}(hh:A.handled=none)(res:Value)(c₀:Nat)(g:ZS b1 b2 h0 z TI TO i1 i2 l1 l2 S xs ys 0 s.heap [])(hz:IsZip s.heap z TI TO .none)(D:ZipApart z TI TO i1 i2 l1 l2)(hS:S ∉ [z,TI,TO,i1,i2])(n1:l1≠S)(n2:l2≠S)(hn:xs.size<=sizeLine)
  (hl:s.heap.get? S=some { cls:=.type "list",data:=.seq #[] c₀ })
  (hR:∀(h':Heap) (Ts':List (Addr × Value × Value)) (c':Nat),(∀c o,h0.get? c=some o->h'.get? c=some o)->h0.objs.size<=h'.objs.size->Ts'.length=min xs.size ys.size->(∀(j:Nat) (t:Addr × Value × Value),Ts'[j]?=some t->xs[j]?=some t.2.1/\ys[j]?=some t.2.2/\IsPair h' t.1 t.2.1 t.2.2)->Ts'.Pairwise (λa b=>a.1<b.1)->(∀t∈Ts',h0.objs.size<=t.1/\t.1≠S)->
   h'.get? S=some { cls:=.type "list",dict:=none,data:=.seq (Ts'.map λt=>Value.ref t.1).toArray c',slots:=#[] }->R (.ok (.ret res)) { s with heap:=h' }):
  wpAny (model prog w) A.in1 (Builtin.List.listExtendWith (.ref S) (.ref z) res)
   (λfin s'=>match fin with|.done f=>R (.ok f) s'|.again c'=>c'.quiet=true/\codeAny (model prog w) A c' R s') (λe s'=>R (.error e) s') s:=by
 have hT:s.TypeIs (.ref z) "zip":=⟨_,hz,rfl⟩;have hSz:S≠z:=λe=>hS (by simp[e])
 have h1:Builtin.List.listSameRef (.ref S) (.ref z)=false:=by simp[Builtin.List.listSameRef,hSz]
 unfold Builtin.List.listExtendWith;refine xa (v7 hT ?_);rw[xf (by rw[h1];decide)];refine xa (wpAny_pyIter_zip hz ?_);refine xa (xS ?_);unfold Builtin.List.listLengthHint;refine xa (uE hT zN9 ?_);show wpAny _ A.in1 (specialOf (Value.ref z) (Str.ofString "__length_hint__") >>= _) _ _ _;refine xa (uE hT zL4 ?_);refine xg ?_;dsimp only;rw[xc (by rfl)];refine xa (wpAny_rule ?_);have frm:∀(f:Array Value->Array Value) (h:Heap),ZS b1 b2 h0 z TI TO i1 i2 l1 l2 S xs ys 0 h []->ZS b1 b2 h0 z TI TO i1 i2 l1 l2 S xs ys 0 (h.update S (Obj.mapSeq f)) []:=λf h q=>q.frame hS n1 n2 (by rw[Heap.size_update];exact xh _) λb o hb e=>(vh _ _ (xA hb)).trans e
 unfold Builtin.List.listTouch;refine xa (show wpAny _ A.in1 (updateSeq S (·.push .none) >>= λ_=>updateSeq S (·.pop)) _ _ _ from xa (uH hl rfl ?_ (by simp) (by simp)));have e1:=vF (Obj.mapSeq (λx:Array Value=>x.push .none)) hl rfl;refine uH e1 rfl ?_ (by show 1<=sizeLine;decide) (by show 0<=sizeLine+1;exact vN _);have e2:=vF (Obj.mapSeq (λx:Array Value=>x.pop)) e1 rfl;exact xg ⟨plainId_quiet uG _,zPq hh D hS n1 n2 hn res _ 0 _ [] _ rfl (vN _) (frm _ _ (frm _ _ g)) e2 hR⟩
theorem zRh{R:Result->Shared->Prop}(hh:A.handled=none)(g:ZS b1 b2 h0 z TI TO i1 i2 l1 l2 S xs ys 0 s.heap [])(hz:IsZip s.heap z TI TO .none)(D:ZipApart z TI TO i1 i2 l1 l2)(hS:S ∉ [z,TI,TO,i1,i2])(n1:l1≠S)(n2:l2≠S)(hn:xs.size<=sizeLine)
  (hl:s.heap.get? S=some { cls:=.type "list",data:=.seq #[] })
  (hR:∀(h':Heap) (Ts':List (Addr × Value × Value)) (c':Nat),(∀c o,h0.get? c=some o->h'.get? c=some o)->h0.objs.size<=h'.objs.size->Ts'.length=min xs.size ys.size->(∀(j:Nat) (t:Addr × Value × Value),Ts'[j]?=some t->xs[j]?=some t.2.1/\ys[j]?=some t.2.2/\IsPair h' t.1 t.2.1 t.2.2)->Ts'.Pairwise (λa b=>a.1<b.1)->(∀t∈Ts',h0.objs.size<=t.1/\t.1≠S)->
   h'.get? S=some { cls:=.type "list",dict:=none,data:=.seq (Ts'.map λt=>Value.ref t.1).toArray c',slots:=#[] }->R (.ok (.ret .none)) { s with heap:=h' }):
  wpAny (model prog w) A.in1 (Builtin.«list.__init__» ⟨[.ref S,.ref z],[]⟩)
   (λfin s'=>match fin with|.done f=>R (.ok f) s'|.again c'=>c'.quiet=true/\codeAny (model prog w) A c' R s') (λe s'=>R (.error e) s') s:=by
 have hS':=hS;simp only[xr,xJ,xK,not_or]at hS';show wpAny _ A.in1 (do let old <- Builtin.List.listItems (.ref S);Builtin.List.listUpdate (.ref S) (λ_=>#[]);letGo old.toList.reverse;Builtin.List.listExtendWith (.ref S) (.ref z) .none) _ _ s;refine xa ?_;unfold Builtin.List.listItems;refine xa (vw hl rfl (xg ?_));show wpAny _ A.in1 (updateSeq S (λ_=>#[]) >>= λ_=>letGo (#[]:Array Value).toList.reverse >>= λ_=>Builtin.List.listExtendWith (.ref S) (.ref z) .none) _ _ s;refine xa (uH hl rfl ?_);have hS₂:=vF (Obj.mapSeq (λ_=>(#[]:Array Value))) hl rfl;have oth:∀b o,b≠S->s.heap.get? b=some o->(s.heap.update S (Obj.mapSeq (λ_=>(#[]:Array Value)))).get? b=some o:=λb o hb e=>(vh _ _ (xA hb)).trans e
 refine xa (wpAny_letGo ?_);exact zLh (s:={ s with heap:=s.heap.update S (Obj.mapSeq (λ_=>(#[]:Array Value))) }) hh .none _ (g.frame hS n1 n2 (by rw[Heap.size_update];exact xh _) oth) (oth _ _ (xA hS'.1) hz) D hS n1 n2 hn hS₂ hR
theorem zGn{Q:Value->Shared->Prop}(hh:A.handled=none)(hz:IsZip s.heap z TI TO .none)(hTI:IsPair s.heap TI (.ref i1) (.ref i2))(hTO:∃p q,IsPair s.heap TO p q)(k1:KIt b1 s.heap i1 l1 0)(k2:KIt b2 s.heap i2 l2 0)(q1:KSq b1 s.heap l1 xs)(q2:KSq b2 s.heap l2 ys)(D:ZipApart z TI TO i1 i2 l1 l2)
  (kp:∀c o,h0.get? c=some o->s.heap.get? c=some o) (own:∀a∈[z,TI,TO,i1,i2],h0.objs.size<=a) (hsz:h0.objs.size<=s.heap.objs.size) (hn:xs.size<=sizeLine)
  (hQ:∀(h':Heap) (Ts':List (Addr × Value × Value)) (c':Nat),(∀c o,h0.get? c=some o->h'.get? c=some o)->h0.objs.size<=h'.objs.size->Ts'.length=min xs.size ys.size->(∀(j:Nat) (t:Addr × Value × Value),Ts'[j]?=some t->xs[j]?=some t.2.1/\ys[j]?=some t.2.2/\IsPair h' t.1 t.2.1 t.2.2)->Ts'.Pairwise (λa b=>a.1<b.1)->(∀t∈Ts',h0.objs.size<=t.1/\t.1≠s.heap.objs.size)->
   h'.get? s.heap.objs.size=some { cls:=.type "list",dict:=none,data:=.seq (Ts'.map λt=>Value.ref t.1).toArray c',slots:=#[] }->Q (.ref s.heap.objs.size) { s with heap:=h' }):wpAny (model prog w) A (call (.type "list") [.ref z]) Q E s:=by
 refine callType_codes (Q₁:=λobj s₁=>obj=.ref s.heap.objs.size/\s₁={ s with heap:=s.heap.push { cls:=.type "list",data:=.seq #[] } }) F.called_list (F.typeCall_list_1 _) F.entry_list_init
  (code_list_new _ ⟨rfl,rfl⟩) λobj s₁ h₁=>?_
 obtain⟨rfl,rfl⟩:=h₁;have hl:(s.heap.push { cls:=.type "list",data:=.seq #[] }).get? s.heap.objs.size=some { cls:=.type "list",data:=.seq #[] }:=xD _ rfl;have up:∀b o,s.heap.get? b=some o->(s.heap.push { cls:=.type "list",data:=.seq #[] }).get? b=some o:=λb o e=>xm _ e
 have ne:∀b o,s.heap.get? b=some o->b≠s.heap.objs.size:=λb o e=>xy (xn e)
 obtain⟨p,q,hTO⟩:=hTO;have nz:=ne _ _ hz;have nI:=ne _ _ hTI;have nO:=ne _ _ hTO;have n1:i1≠s.heap.objs.size:=by obtain⟨o,e,_⟩:=k1;exact ne _ _ e
 have n2:i2≠s.heap.objs.size:=by obtain⟨o,e,_⟩:=k2;exact ne _ _ e
 have m1:l1≠s.heap.objs.size:=by obtain⟨o,e,_⟩:=q1;exact ne _ _ e
 have m2:l2≠s.heap.objs.size:=by obtain⟨o,e,_⟩:=q2;exact ne _ _ e
 have hS:s.heap.objs.size ∉ [z,TI,TO,i1,i2]:=by simp only[xr,xJ,xK,not_or];exact⟨nz.symm,nI.symm,nO.symm,n1.symm,n2.symm⟩
 have g:ZS b1 b2 h0 z TI TO i1 i2 l1 l2 s.heap.objs.size xs ys 0 (s.heap.push { cls:=.type "list",data:=.seq #[] }) []:=
  ⟨.inl (up _ _ hz),up _ _ hTI,⟨p,q,up _ _ hTO⟩,k1.at λo e=>up _ o e,k2.at λo e=>up _ o e,q1.at λo e=>up _ o e,q2.at λo e=>up _ o e,λc o e=>up c o (kp c o e),rfl,(λj t e=>by simp at e),.nil,(λt ht=>nomatch ht),(λa ha=>by
   simp only[xr,xJ,xK]at ha;rcases ha with rfl|rfl|rfl|rfl|rfl|rfl
   ·exact own _ (by simp)
   ·exact own _ (by simp)
   ·exact own _ (by simp)
   ·exact own _ (by simp)
   ·exact own _ (by simp)
   ·exact hsz),xq hsz (by rw[vv];exact ub _)⟩
 refine⟨⟨_,hl,rfl⟩,F.args_list_init_2 _ _,zRh (A:=A.in1) hh g (up _ _ hz) D hS m1 m2 hn hl λh' Ts' c' a1 a2 a3 a4 a5 a6 a7=>?_⟩;exact⟨rfl,hQ h' Ts' c' a1 a2 a3 a4 a5 a6 a7⟩
end
end TS
namespace L2
open PySem PySem.Spec PyProof.Rows TS
noncomputable def updT (H:Hp):List (Addr × V × V)->Hp
 | []=>H
 | t::r=>updT (upd H t.1 (.tup [t.2.1,t.2.2])) r
theorem zE7:∀(Ts:List (Addr × V × V)) (H:Hp) (b:Addr),b ∉ Ts.map (·.1)->updT H Ts b=H b
 | [],_,_,_=>rfl
 | t::r,H,b,h=>by
  simp only[xt,xr,not_or]at h;show updT (upd H t.1 _) r b=_;rw[zE7 r _ b h.2,zA9 h.1]
theorem zT9 :∀(Ts:List (Addr × V × V)) (H:Hp),HOk P w H h->(∀t∈Ts,H t.1=none)->(Ts.map (·.1)).Nodup->(∀t∈Ts,∃u v,RelV t.2.1 u/\RelV t.2.2 v/\IsPair h t.1 u v)->HOk P w (updT H Ts) h
 | [],_,x,_,_,_=>x
 | t::r,H,x,hn,nd,al=>by
  have nd':=vR.mp nd;obtain⟨u,v,ru,rv,hp⟩:=al t (.head _);refine zT9 r _ (HOk.adopt x (hn t (.head _)) ⟨by show 2<=sizeLine;decide,[u,v],.cons ru (.cons rv .nil),⟨_,hp,rfl,_,rfl⟩⟩) (λq hq=>?_) nd'.2 λq hq=>al q (.tail _ hq)
  rw[zA9 λe=>nd'.1 (xE.mpr ⟨q,hq,e⟩)];exact hn q (.tail _ hq)
noncomputable def zJl (ta:TA):TE:=λσ H Q=>ta σ H λvs H1=>∃b1 b2 a b xs ys,vs=[.ref a,.ref b]/\H1 a=some (hoK b1 xs)/\H1 b=some (hoK b2 ys) /\
 ∀(Ts:List (Addr × V × V)) (l:Addr),Ts.map (·.2)=xs.zip ys->(∀t∈Ts,H1 t.1=none)->(Ts.map (·.1)).Nodup->H1 l=none->l ∉ Ts.map (·.1)->Q (.ref l) (upd (updT H1 Ts) l (.lst (Ts.map λt=>.ref t.1)))
section
variable {X:Cx}{a b:Expr}{p p2 pos pos2:Pos}
theorem zGu:∀(l:List Addr),Vals (l.map λt=>V.ref t) (l.map λt=>Value.ref t)
 | []=>.nil
 | x::l=>.cons rfl (zGu l)
theorem zL0(hc:X.calm=true)(ha:PA X [a,b] ta)(hgl:Gl X "list")(hml:X.mg "list"=none)(hg:Gl X "zip")(hm:X.mg "zip"=none)(hs:starEach [a,b] X.env=[(false,eval a X.env),(false,eval b X.env)])(hs2:starEach [b] X.env=[(false,eval b X.env)])
  (hs3:starEach [Expr.Call (.Name "zip" p2) [a,b] [] pos2] X.env=[(false,eval (.Call (.Name "zip" p2) [a,b] [] pos2) X.env)]:=by rfl):
  PE X (.Call (.Name "list" p) [.Call (.Name "zip" p2) [a,b] [] pos2] [] pos) (zJl ta):=by
 intro pins s σ H Q I h;refine vZ (zE0 I hgl hml PyProof.Rows.boot_list ?_);refine uk ?_ hs3 rfl;rw[hs3];show wpAny _ _ (spliced ((false,eval (.Call (.Name "zip" p2) [a,b] [] pos2) X.env)::backTo pos [])) _ _ s;refine vL ?_;refine Call_ (zE0 I hg hm PyProof.Rows.boot_zip (uk (thn (ha pos2 pins s σ H _ I h) λus s1 ⟨vs,H1,I1,r1,q1⟩=>?_) (by rw[hs,hs2]) (by rw[hs2];rfl)));obtain⟨b1,b2,l1,l2,xs,ys,e,ha1,hb1,q⟩:=q1;subst e;obtain⟨u1,u2,rfl,rfl,rfl⟩:=vals2 r1;obtain⟨its,rv,p1,z1⟩:=I1.kSq ha1;obtain⟨jts,rw',p2',z2⟩:=I1.kSq hb1;refine zVp p1 p2' λh1 c1 c2 c3 c4 c5 hk=>?_
 refine um ?_;have DZ:∀n:Nat,ZipOwn (n+4) (n+2) (n+3) n (n+1):=λn=>by constructor <;> exact λe=>absurd (show(_:Nat)=_ from e) (by nofun)
 have out:∀c,c∈[s1.heap.objs.size+4,s1.heap.objs.size+2,s1.heap.objs.size+3,s1.heap.objs.size,s1.heap.objs.size+1]->s1.heap.objs.size<=c:=λc hc=>by
  simp only[xr,xJ,xK]at hc;rcases hc with rfl|rfl|rfl|rfl|rfl
  ·exact uz _ _
  ·exact uz _ _
  ·exact uz _ _
  ·exact xh _
  ·exact uz _ _
 have nl1:l1 ∉ [s1.heap.objs.size+4,s1.heap.objs.size+2,s1.heap.objs.size+3,s1.heap.objs.size,s1.heap.objs.size+1]:=λhm=>by
  obtain⟨o,e,_⟩:=p1;exact absurd (xn e) (Nat.not_lt.mpr (out _ hm))
 have nl2:l2 ∉ [s1.heap.objs.size+4,s1.heap.objs.size+2,s1.heap.objs.size+3,s1.heap.objs.size,s1.heap.objs.size+1]:=λhm=>by
  obtain⟨o,e,_⟩:=p2';exact absurd (xn e) (Nat.not_lt.mpr (out _ hm))
 have sz1:s1.heap.objs.size<=h1.objs.size:=by have:=xn c1;exact xq (uz _ _) (vB this)
 have lx:=rv.length;have ly:=rw'.length;refine zGn (s:={ s1 with heap:=h1 }) (h0:=s1.heap) (I.ok.hd hc) c1 c2 ⟨_,_,c3⟩ c4 c5 (p1.at λo e=>hk _ o e) (p2'.at λo e=>hk _ o e) ((DZ _).apart nl1 nl2) hk out sz1 (by simpa[<- lx]using z1) λh' Ts c kp sz len at_ ord apt hS=>?_
 have lTs:Ts.length=(xs.zip ys).length:=by rw[len,List.length_zip];simp[<- lx,<- ly]
 generalize hL:h1.objs.size=L at hS apt ⊢;have hLs:s1.heap.objs.size<=L:=by rw[<- hL];exact sz1
 obtain⟨Us,hU1,hU2⟩:∃Us:List (Addr × V × V),Us.map (·.1)=Ts.map (·.1)/\Us.map (·.2)=xs.zip ys:=by
  refine⟨(Ts.map (·.1)).zip (xs.zip ys),?_,?_⟩
  ·rw[List.map_fst_zip];rw[xp];lia
  ·rw[List.map_snd_zip];rw[xp];lia
 have memU:∀t∈Us,s1.heap.objs.size<=t.1/\t.1≠L:=λt ht=>by
  have:t.1∈Ts.map (·.1):=by rw[<- hU1];exact xE.mpr ⟨t,ht,rfl⟩
  obtain⟨r,hr,e⟩:=xE.mp this;rw[<- e];exact apt r hr
 have fresh:∀c,s1.heap.objs.size<=c->H1 c=none:=λc hc=>I1.hok.fresh hc
 have nd:(Us.map (·.1)).Nodup:=by rw[hU1];exact List.pairwise_map.mpr (ord.imp λh z=>xy h z)
 have hok0:HOk X.prog X.w H1 h':=I1.hok.kept kp;have rel:∀t∈Us,∃u v,RelV t.2.1 u/\RelV t.2.2 v/\IsPair h' t.1 u v:=λt ht=>by
  obtain⟨j,hj,e⟩:=List.getElem_of_mem ht;have lU:Us.length=Ts.length:=by have:=congrArg List.length hU1;simpa using this
  obtain⟨a1,a2,a3⟩:=at_ j (Ts[j]'(by nofun)) (xo _);have e1:(Us.map (·.1))[j]?=(Ts.map (·.1))[j]?:=by rw[hU1]
  have e2:(Us.map (·.2))[j]?=(xs.zip ys)[j]?:=by rw[hU2]
  rw[xO,xO,xo hj,xo (by nofun),e]at e1;rw[xO,xo hj,e]at e2;simp at e1;obtain⟨f1,f2⟩:=List.getElem?_zip_eq_some.mp e2.symm;obtain⟨u,hu,ru⟩:=rv.get f1;obtain⟨v,hv,rv'⟩:=rw'.get f2;refine⟨u,v,ru,rv',?_⟩;rw[e1];have g1:u=(Ts[j]'(by nofun)).2.1:=by
   have:its.toArray[j]?=some u:=by simpa using hu
   rw[this]at a1;exact xB a1
  have g2:v=(Ts[j]'(by nofun)).2.2:=by
   have:jts.toArray[j]?=some v:=by simpa using hv
   rw[this]at a2;exact xB a2
  rw[g1,g2];exact a3
 have hokT:=zT9 Us H1 hok0 (λt ht=>fresh _ (memU t ht).1) nd rel;have nL:L ∉ Us.map (·.1):=λhm=>by
  obtain⟨t,ht,e⟩:=xE.mp hm;exact(memU t ht).2 e
 have hLn:updT H1 Us L=none:=by rw[zE7 _ _ _ nL];exact fresh _ hLs
 have refs:Us.map (λt=>V.ref t.1)=(Us.map (·.1)).map λt=>V.ref t:=by rw[xU];rfl
 have refs':Ts.map (λt=>Value.ref t.1)=(Us.map (·.1)).map λt=>Value.ref t:=by rw[hU1,xU];rfl
 have hok:=HOk.adopt (D:=L) (o:=.lst (Us.map λt=>.ref t.1)) hokT hLn ⟨by
  have lU:Us.length=Ts.length:=by have:=congrArg List.length hU1;simpa using this
  rw[xp,lU,lTs,List.length_zip];lia,_,c,by rw[refs];exact zGu _,by rw[hS,refs']⟩
 have keep:∀c,c<s1.heap.objs.size->upd (updT H1 Us) L (.lst (Us.map λt=>.ref t.1)) c=H1 c:=λc hc=>by
  rw[zA9 (xy (xw hc hLs)),zE7 _ _ _ λhm=>by
   obtain⟨t,ht,e⟩:=xE.mp hm;have:=(memU t ht).1;rw[e]at this;exact absurd hc (Nat.not_lt.mpr this)]
 have keepS:∀c u,H1 c=some u->upd (updT H1 Us) L (.lst (Us.map λt=>.ref t.1)) c=some u:=λc u e=>by
  rw[keep c ?_,e];rcases Nat.lt_or_ge c s1.heap.objs.size with q|q
  ·exact q
  ·rw[fresh c q]at e;cases e
 have I4:Inv X pins σ (upd (updT H1 Us) L (.lst (Us.map λt=>.ref t.1))) { s1 with heap:=h' }:=by
  refine Inv.call' (s:=s1) (s':={ s1 with heap:=h' }) (ch:=[]) I1 rfl ?_ hok I1.bare λb hb=>nomatch hb
  exact⟨λb o e _ _ hx=>kp b o e,λb o e _ _ hx=>⟨o.slots,kp b o e⟩,λb o e n _=>by rw[keep b (xn e)];exact n,λb o e hx=>⟨o,kp b o e⟩,
    λb ys e=>keepS b _ e,λb o u e=>keepS b _ e,λb ps e=>⟨#[],by rw[keepS b _ e];simp⟩⟩
 exact⟨.ref L,_,I4,rfl,q Us L hU2 (λt ht=>fresh _ (memU t ht).1) nd (fresh _ hLs) nL⟩
theorem qlistzip'(hc:X.calm=true)(ha:SA X [a,b] ta)(hgl:Gl X "list")(hml:X.mg "list"=none)(hg:Gl X "zip")(hm:X.mg "zip"=none)(hs:starEach [a,b] X.env=[(false,eval a X.env),(false,eval b X.env)])(hs2:starEach [b] X.env=[(false,eval b X.env)]):
  SE X (.Call (.Name "list" p) [.Call (.Name "zip" p2) [a,b] [] pos2] [] pos) (zJl ta):=⟨zL0 hc ha.h hgl hml hg hm hs hs2⟩
end
open DS (D Store Exn Rs SR)
section
variable {X:Cx}{K:PySem.W.Frag}{E:XE}{J:Js}{S:Store}{H:Hp}{d d1 d2:D}{v:V}
theorem zS9(ha:AbS K J S H)(r:Rep K J H d v)(e:DS.trk S d=some (c,l)):∃a xs,v=.ref a/\H a=some (hoK c xs)/\RepL K J H l xs:=by
 cases d with
 | tup l=>cases e;obtain⟨a,xs,rfl,t,rl⟩:=r;exact⟨a,xs,rfl,t.1,rl⟩
 | lst l=>cases e;obtain⟨a,xs,rfl,t,rl⟩:=r;exact⟨a,xs,rfl,t.1,rl⟩
 | ref n=>
  obtain⟨a,ea,rfl⟩:=r;obtain⟨c',ec,o,eo,rc⟩:=ha.at ea;have e:(match S[n]? with|some (.lst l)=>some (false,l)|_=>none)=some (c,l):=e;rw[ec]at e;cases c' with
  | lst l'=>
   cases e;obtain⟨ys,rfl,rl⟩:=rc;exact⟨a,ys,rfl,eo,rl⟩
  | _=>cases e
 | _=>cases e
theorem zMp:∀(Ts:List (Addr × V × V)) (l m:List D) (xs ys:List V) (H:Hp),AbS K J S H->RepL K J H l xs->RepL K J H m ys->Ts.map (·.2)=xs.zip ys->(∀t∈Ts,H t.1=none)->(Ts.map (·.1)).Nodup->
  AbS K J S (updT H Ts)/\Grow J H J (updT H Ts)/\RepL K J (updT H Ts) ((l.zip m).map λp=>.tup [p.1,p.2]) (Ts.map λt=>.ref t.1)
 | [],l,m,xs,ys,H,ha,r1,r2,e,_,_=>by
  refine⟨ha,.refl,?_⟩;have:(l.zip m).length=0:=by rw[List.length_zip,r1.length,r2.length,<- List.length_zip,<- e];rfl
  rw[uZ.mp this];rfl
 | t::Ts,[],m,xs,ys,H,ha,r1,r2,e,_,_=>by cases r1;cases e
 | t::Ts,d::l,[],xs,ys,H,ha,r1,r2,e,_,_=>by
  cases r2;rw[List.zip_nil_right]at e;cases e
 | t::Ts,d::l,d'::m,xs,ys,H,ha,r1,r2,e,hn,nd=>by
  obtain⟨x,xs,rfl,rx,r1⟩:=r1;obtain⟨y,ys,rfl,ry,r2⟩:=r2;have e0:t.2::Ts.map (·.2)=(x,y)::xs.zip ys:=e;injection e0 with e1 e2
  obtain⟨ta,tx,ty⟩:=t;simp only[Prod.mk.injEq]at e1;obtain⟨rfl,rfl⟩:=e1;have nd':=vR.mp nd;have g0:Grow J H J (upd H ta (.tup [tx,ty])):=.push (hn (ta,tx,ty) (.head _));have a0:AbS K J S (upd H ta (.tup [tx,ty])):=ha.push (hn (ta,tx,ty) (.head _));obtain⟨a1,g1,q1⟩:=zMp Ts l m xs ys _ a0 (RepL.grow g0 _ _ r1) (RepL.grow g0 _ _ r2) e2 (λq hq=>by
   rw[zA9 λz=>nd'.1 (xE.mpr ⟨q,hq,z⟩)];exact hn q (.tail _ hq)) nd'.2
  refine⟨a1,g0.trans g1,?_⟩;refine⟨.ref ta,_,rfl,Rep.grow g1 (.tup [d,d']) _ ?_,q1⟩;refine⟨ta,_,rfl,⟨zAb,ha.out (hn (ta,tx,ty) (.head _))⟩,tx,[ty],rfl,?_,ty,[],rfl,?_,rfl⟩
  ·exact Rep.grow g0 _ _ rx
  ·exact Rep.grow g0 _ _ ry
theorem zLo{p p2 pos pos2:Pos}(hc:X.calm=true)(ha:DA X K E [a,b] am)(hgl:Gl X "list")(hml:X.mg "list"=none)(hg:Gl X "zip")(hm:X.mg "zip"=none)(h1:nst a=true:=by rfl)(h2:nst b=true:=by rfl):
  DF X K E (.Call (.Name "list" p) [.Call (.Name "zip" p2) [a,b] [] pos2] [] pos) (DS.eCB DS.zipT am):=by
 refine⟨(qlistzip' hc ha.h hgl hml hg hm (by rw[zBd h1,zBd h2];rfl) (by rw[zBd h2];rfl)).imp λσ H Q ⟨env,S,J,hA,hE,q⟩=>⟨env,S,J,hA,hE,q.bind.imp λds S1 J1 H1 e1 a1 g1 q1 xs rx=>?_⟩⟩;obtain⟨c,ec,k⟩:=q1.lift;have hl:=ha.len _ _ _ _ e1
 match ds,hl with
 | [d,d'],_=>
  obtain⟨x,y,rfl,r,r'⟩:=zFt rx;unfold DS.zipT at ec;simp only at ec;cases t1:DS.trk S1 d with
  | none=>rw[t1]at ec;cases ec
  | some p1=>
   cases t2:DS.trk S1 d' with
   | none=>rw[t1,t2]at ec;cases ec
   | some p2=>
    obtain⟨c1,l⟩:=p1;obtain⟨c2,m⟩:=p2;rw[t1,t2]at ec;cases ec;obtain⟨a',xs,rfl,f1,s1⟩:=zS9 a1 r t1;obtain⟨b',ys,rfl,f2,s2⟩:=zS9 a1 r' t2;refine⟨c1,c2,a',b',xs,ys,rfl,f1,f2,λTs L hz hn nd hLn nL=>?_⟩;obtain⟨a2,g2,q2⟩:=zMp Ts l m xs ys H1 a1 s1 s2 hz hn nd;exact k J1 (updT H1 Ts) a2 g2 L _ (by rw[zE7 _ _ _ nL];exact hLn) ⟨_,rfl,q2⟩
end
section
variable {X:Cx}{K:PySem.W.Frag}
theorem zSl:OpR X (compareOp .Eq) (r2Of K DS.eqI):=by
 intro pins s σ H x y v u Q I rx ry hq38;obtain⟨J,S,d1,d2,d,ha,r1,r2,e,k⟩:=hq38;unfold DS.eqI at e;split at e
 ·cases e;obtain rfl:=r1;obtain rfl:=r2;obtain⟨t,rfl⟩:=rx;obtain⟨t',rfl⟩:=ry;exact eq_int ⟨.bl _,H,I,rfl,k _ H ha .refl rfl⟩
 ·cases e
end
open EK
open DS (lv)
section
open Classical
variable {X:Cx}{K:PySem.W.Frag}{J:Js}{S:Store}{H:Hp}{d1 d2:D}
theorem A2.at{α β:Type}{R:α->β->Prop}{l:List α}{m:List β}(h:A2 R l m):∀(i:Nat) (b:β),m[i]?=some b->∃a,l[i]?=some a/\R a b:=by
 induction h with
 | nil=>intro i b e;cases e
 | cons r _ ih=>
  intro i b e;cases i with
  | zero=>cases e;exact⟨_,rfl,r⟩
  | succ i=>exact ih i b e
theorem zT8{l m:List D}:((List.range (min l.length m.length)).all (λj=>decide (l[j]?=m[j]?)) && l.length == m.length)=decide (l=m):=by
 by_cases c:l=m
 ·subst c;simp
 ·rw[xi c];refine Bool.eq_false_iff.mpr λz=>c ?_
  rw[xl,ve]at z;have hl:l.length=m.length:=by simpa using z.2
  refine uI λi=>?_
  by_cases hi:i<l.length
  ·exact uO (z.1 i (List.mem_range.mpr (by nofun)))
  ·rw[x6 (by nofun),x6 (by nofun)]
theorem zSi(hu:X.A.units+64<cLine)(hK:X.K=K:=by rfl):OpR X (compareOp .NotEq) (r2Of K DS.neK):=by
 subst hK;intro pins s σ H x y v u Q I rx ry hq39;obtain⟨J,S,d1,d2,d,ha,r1,r2,e,k⟩:=hq39;unfold DS.neK at e;split at e
 ·cases e;obtain rfl:=r1;obtain rfl:=r2;obtain⟨t,rfl⟩:=rx;obtain⟨t',rfl⟩:=ry;exact ne_int ⟨.bl _,H,I,rfl,k _ H ha .refl rfl⟩
 ·cases e;obtain rfl:=r1;obtain rfl:=r2;cases rx;cases ry;exact SeqAt.RcNeAt.bool_bool _ _ _ _ _ _ ⟨.bl _,H,I,by rw[Bool.beq_eq_decide_eq];exact rfl,k _ H ha .refl rfl⟩
 ·cases e;obtain rfl:=r1;obtain rfl:=r2;obtain⟨t,rfl⟩:=rx;obtain⟨t',rfl⟩:=ry;exact SeqAt.RcNeAt.str_str _ _ _ _ _ _ _ _ ⟨.bl _,H,I,rfl,k _ H ha .refl rfl⟩
 ·rename_i l m;split at e
  ·rename_i hs;cases e;obtain⟨n,hn,hl⟩:=hs;obtain⟨a,xs,rfl,t1,q1⟩:=r1;obtain⟨b,ys,rfl,t2,q2⟩:=r2;cases rx;cases ry;obtain⟨its,va,ta,_⟩:=I.tuple t1.sq;obtain⟨jts,vb,tb,_⟩:=I.tuple t2.sq;have al:=zO8 I (λd hd=>hl d (vf _ hd)) q1 va;have bl:=zO8 I (λd hd=>hl d (xI _ hd)) q2 vb;refine SeqAt.RcNeAt.tuples (e:=λj=>decide (l[j]?=m[j]?)) (ta) (tb) (by nofun) (λj h1 h2=>?_) _ _ _ _ ?_
   ·simp only[xu]at h1 h2;simp only[uJ];obtain⟨d,ed,rd⟩:=A2.at al j _ (xo h1);obtain⟨d',ed',rd'⟩:=A2.at bl j _ (xo h2);rw[ed,ed',show decide (some d=some d')=decide (d=d')from vc.mpr ⟨xB,λz=>by rw[z]⟩];exact λprog w E Q hq=>zRr n rd rd' (by show X.A.units+1+n<cLine;lia) hq
   ·simp only[xu];rw[<- al.length,<- bl.length,zT8];exact⟨.bl _,H,I,rfl,k _ H ha .refl rfl⟩
  ·cases e
 ·cases e
end
section
open Classical
variable {X:Cx}{K:PySem.W.Frag}{E:XE}{J:Js}{S:Store}{H:Hp}
theorem zDh:∀{ys:List Str}{xs:List V},RepL K J H (ys.map D.str) xs->xs=ys.map V.str
 | [],xs,h=>by cases h;rfl
 | y::ys,xs,h=>by
  obtain⟨x,r,rfl,hx,hr⟩:=h;obtain rfl:=hx;rw[zDh hr];rfl
theorem zJn:∀(ys:List Str),RepL K J H (ys.map D.str) (ys.map V.str)
 | []=>rfl
 | y::ys=>⟨.str y,ys.map V.str,rfl,rfl,zJn ys⟩
theorem zNd:MtR X "str.startswith" (mOf K DS.startM):=by
 intro pins s σ H x xs v us Q I rx rs hq;obtain⟨J,S,d1,ds,d,S',ha,r1,rl,e,k⟩:=hq;unfold DS.startM at e;split at e
 ·cases e;obtain⟨y,rfl,ry⟩:=zC3 (ds:=[]) rl;obtain rfl:=r1;obtain rfl:=ry;exact zG7 pins s σ H _ _ v us Q I rx rs ⟨_,_,rfl,rfl,k _ H ha .refl rfl⟩
 ·cases e
theorem zNe:MtR X "str.split" (mOf K DS.splitM):=by
 intro pins s σ H x xs v us Q I rx rs hq;obtain⟨J,S,d1,ds,d,S',ha,r1,rl,e,k⟩:=hq;unfold DS.splitM at e;split at e
 ·split at e
  ·rename_i h;cases e;obtain⟨y,rfl,ry⟩:=zC3 (ds:=[]) rl;obtain rfl:=r1;obtain rfl:=ry;exact zR7 pins s σ H _ _ v us Q I rx rs ⟨_,_,rfl,rfl,h.1,h.2.1,h.2.2,λl n=>k _ _ (ha.push n) (.push n) ⟨l,_,rfl,⟨zAb,ha.out n⟩,zJn _⟩⟩
  ·cases e
 ·cases e
theorem zR8(hK:X.K=K:=by rfl):MtR X "str.join" (mOf K DS.joinM):=by
 subst hK;intro pins s σ H x xs v us Q I rx rs hq;obtain⟨J,S,d1,ds,d,S',ha,r1,rl,e,k⟩:=hq;unfold DS.joinM at e;split at e
 ·rename_i sep d0;obtain⟨y,rfl,ry⟩:=zC3 (ds:=[]) rl;obtain rfl:=r1;split at e
  ·rename_i ys e1;split at e
   ·rename_i h;cases e;split at e1
    ·rename_i l e2;have el:=DS.zCp e1;obtain⟨b,zs,rfl,hq,q⟩:=zFj ha ry e2;rw[el]at q;obtain rfl:=zDh q;exact zVj rfl pins s σ H _ _ v us Q I rx rs ⟨_,_,_,rfl,rfl,hq,h.1,h.2,k _ H ha .refl rfl⟩
    ·cases e1
   ·cases e
  ·cases e
 ·cases e
theorem zP2:zB9 X (.type "str") (cOf K DS.strI):=by
 intro pins s σ H xs us Q I r hq;obtain⟨J,S,ds,d,ha,rl,e,k⟩:=hq;unfold DS.strI at e;split at e
 ·split at e
  ·rename_i h;cases e;obtain⟨x,rfl,rx⟩:=zC3 (ds:=[]) rl;obtain rfl:=rx;exact zHl pins s σ H _ us Q I r ⟨_,rfl,h,k _ H ha .refl rfl⟩
  ·cases e
 ·cases e
theorem zLw:zB9 X (.type "int") (cOf K DS.intS):=by
 intro pins s σ H xs us Q I r hq;obtain⟨J,S,ds,d,ha,rl,e,k⟩:=hq;unfold DS.intS at e;split at e
 ·split at e
  ·rename_i n e1;split at e
   ·rename_i h;cases e;obtain⟨x,rfl,rx⟩:=zC3 (ds:=[]) rl;obtain rfl:=rx;exact zP6 pins s σ H _ us Q I r ⟨_,n,rfl,e1,h,k _ H ha .refl rfl⟩
   ·cases e
  ·cases e
 ·cases e
theorem yAo :DE X K E e DS.eBad:=⟨⟨λpins s σ H Q I h=>by
 obtain⟨env,S,J,ha,hE,q⟩:=h;exact q.elim⟩⟩
theorem zWn :DSs X K E ss DS.zJv:=⟨⟨λpins s σ H D I h=>by
 obtain⟨env,S,J,ha,hE,q⟩:=h;exact q.elim⟩⟩
theorem zV4:OpR X (binaryOp .Mult) (r2Of K DS.mulS):=by
 intro pins s σ H x y v u Q I rx ry hq40;obtain⟨J,S,d1,d2,d,ha,r1,r2,e,k⟩:=hq40;unfold DS.mulS at e;split at e
 ·rename_i z n;obtain rfl:=r1;obtain rfl:=r2;obtain⟨t,rfl⟩:=rx;obtain⟨t',rfl⟩:=ry;split at e
  ·rename_i h;subst h;cases e;exact P.mul_str (by decide) (λ_ h=>by cases h) (λ_ h=>by cases h) ⟨.str z,H,I,⟨t,rfl⟩,k _ H ha .refl rfl⟩
  ·split at e
   ·rename_i h;subst h;cases e;exact P.mul_str_none (by decide) (by decide) ⟨.str _,H,I.tok _,⟨_,rfl⟩,k _ H ha .refl rfl⟩
   ·cases e
 ·exact zIg pins s σ H x y v u Q I rx ry ⟨J,S,d1,_,d,ha,r1,r2,e,k⟩
theorem zKl :∀{ys:List Str}{us:List Value},Vals (ys.map V.str) us->(us.any λv=>match v with|.str y _=>decide (y=a)|_=>false)=decide (a∈ys)
 | [],_,.nil=>by simp
 | y::ys,_,.cons ⟨t,e⟩ r=>by
  subst e;rw[List.any_cons,zKl r];by_cases h:y=a
  ·simp[h]
  ·have:¬ a=y:=λz=>h z.symm
   simp[h,this]
theorem zYy(hu:X.A.units+64<cLine)(hK:X.K=K:=by rfl):OpR X (compareOp .In) (r2Of K DS.inT):=by
 subst hK;intro pins s σ H x y v u Q I rx ry hq;obtain⟨J,S,d1,d2,d,ha,r1,r2,e,k⟩:=hq;unfold DS.inT at e;cases e0:DS.inTO S d1 d2 with
 | none=>rw[e0]at e;cases e
 | some b=>
  rw[e0]at e;cases e;unfold DS.inTO at e0;split at e0
  ·rename_i a l;split at e0
   ·rename_i ys e1;cases e0;have el:=DS.zCp e1;subst el;obtain rfl:=r1;obtain⟨p,xs,rfl,t1,q1⟩:=r2;obtain rfl:=zDh q1;obtain⟨t,rfl⟩:=rx;cases ry;obtain⟨its,r,pl,hz⟩:=I.tuple t1.sq;refine SeqAt.in_tupleAt (λv=>match v with|.str y _=>decide (y=a)|_=>false) pl (λy hy=>?_) ⟨.bl (decide (a∈ys)),H,I,?_,k _ H ha .refl rfl⟩
    ·obtain⟨i,hi,e⟩:=List.mem_iff_getElem.mp (show y∈its from by simpa using hy);have hl:=r.length;obtain⟨u,hu,ru⟩:=r.get (xo (show i<(ys.map V.str).length by nofun));rw[xo hi]at hu;cases hu;rw[List.getElem_map]at ru;obtain⟨t',e'⟩:=ru;rw[<- e,e'];exact λ_ _ _ _ h=>wpAny_eqBool_str h
    ·show Value.bool _=Value.bool _;rw[<- zKl r];simp
   ·cases e0
  ·rename_i a b;cases e0;obtain rfl:=r1;obtain rfl:=r2;exact zN6 pins s σ H _ _ v u Q I rx ry ⟨a,b,rfl,rfl,k _ H ha .refl rfl⟩
  ·cases e0
theorem sRan{A B:Int}{a b:Nat}(ha:A=a)(hb:B=b):sliceRange A B 1=(List.range (b-a)).map λk=>a+k:=by
 subst ha hb;unfold sliceRange;rw[xc (by decide)];by_cases c:a<b
 ·rw[xc (by nofun)];have e2:(((b:Int)-a+1-1) / 1).toNat=b-a:=by nofun
  dsimp only;rw[e2];exact List.map_congr_left λk _=>by nofun
 ·rw[xf (by nofun),show b-a=0 by nofun];rfl
theorem zGl{n:Nat}{i:Int}(h:0<=i):(if(1:Int) > 0 then max 0 (min (if i<0 then i+(n:Int)else i) (n:Int))else max (-1) (min (if i<0 then i+(n:Int)else i) ((n:Int)-1)))=(DS.sIx n 0 (some i):Nat):=by rw[xc (by decide),xf (by nofun)];unfold DS.sIx;dsimp only;rw[xf (by nofun)];lia
theorem sIx_le{n d:Nat}{o:Option Int}(hd:d<=n)(h:∀v,o=some v->0<=v):DS.sIx n d o<=n:=by
 cases o with
 | none=>exact hd
 | some v=>
  have:=h v rfl;unfold DS.sIx;dsimp only;rw[xf (by nofun)];lia
theorem zIf(z:Str)(l u:Option (Int × Tok))(hl:∀v,l.map (·.1)=some v->0<=v)(hu:∀v,u.map (·.1)=some v->0<=v):∃a b,a=DS.sIx z.length 0 (l.map (·.1))/\b=DS.sIx z.length z.length (u.map (·.1))/\a<=z.length/\b<=z.length/\slicePicked z l u none=(List.range (b-a)).map λk=>a+k:=by
 refine⟨_,_,rfl,rfl,sIx_le (by nofun) hl,sIx_le (by nofun) hu,?_⟩;cases l with
 | none=>cases u with
  | none=>exact sRan rfl rfl
  | some u=>exact sRan rfl (zGl (hu u.1 rfl))
 | some l=>cases u with
  | none=>exact sRan (zGl (hl l.1 rfl)) rfl
  | some u=>exact sRan (zGl (hl l.1 rfl)) (zGl (hu u.1 rfl))
theorem zH5(c:List Nat)(a:Nat):∀m,a+m<=c.length->((List.range m).map λk=>a+k).filterMap (c.toArray[·]?)=(c.drop a).take m
 | 0,_=>by simp
 | m+1,h=>by
  have hz:a+m<c.length:=by nofun
  rw[List.range_succ,xP,List.filterMap_append,zH5 c a m (by nofun),List.take_succ];congr 1;simp[hz]
theorem sl_S(hK:X.K=K:=by rfl):SlR X (slOf K DS.slS):=by
 intro pins s σ H x v vl vu lo hi sl Q I rx hs pl pu hq;obtain⟨J,S,d1,d,ha,r1,e,k⟩:=hq;unfold DS.slS at e;split at e
 ·split at e
  ·rename_i z h;cases e;obtain rfl:=r1;obtain⟨t,rfl⟩:=rx;obtain⟨l,el,rfl⟩:∃l:Option (Int × Tok),l.map (·.1)=lo/\vl=partValue l:=by
    cases pl with
    | none=>exact⟨none,rfl,rfl⟩
    | int i tk=>exact⟨some (i,tk),rfl,rfl⟩
   obtain⟨u,eu,rfl⟩:∃l:Option (Int × Tok),l.map (·.1)=hi/\vu=partValue l:=by
    cases pu with
    | none=>exact⟨none,rfl,rfl⟩
    | int i tk=>exact⟨some (i,tk),rfl,rfl⟩
   subst el eu;obtain⟨a,b,ea,eb,za,zb,ep⟩:=zIf z l u h.1 h.2.1;have lz:z.cps.toList.length=z.length:=by simp[Str.length]
   refine⟨"str",_,PySem.F.slot_str_getitem.lookup,typeIs_str s z t,wpAny_getItem_str_slice (l:=l) (u:=u) (st:=none) hs rfl ?_⟩;have ec:(⟨(DS.cutL z.cps.toList (l.map (·.1)) (u.map (·.1))).toArray⟩:Str)=⟨(((List.range (b-a)).map λk=>a+k).filterMap (z.cps[·]?)).toArray⟩:=by
    unfold DS.cutL;rw[lz,<- ea,<- eb];by_cases c:a<=b
    ·have:=zH5 z.cps.toList a (b-a) (by nofun);simp only[Array.toArray_toList]at this;rw[this]
    ·rw[show b-a=0 by nofun];simp
   rw[ec]at k;unfold sliceMade;rw[ep];split
   ·rename_i c;simp only[xl,vt,xp,vj]at c;have e0:(⟨(((List.range (b-a)).map λk=>a+k).filterMap (z.cps[·]?)).toArray⟩:Str)=z:=by
     rw[<- ec];unfold DS.cutL;rw[lz,<- ea,<- eb];have c2:=c.2;rcases Nat.eq_zero_or_pos a with h0|h0
     ·rw[h0,List.drop_zero,uK (by nofun)]
     ·have:z.length=0:=by nofun
      have z0:z.cps.toList=[]:=uZ.mp (by rw[lz];exact this);rw[z0];show(⟨(List.take _ (List.drop _ [])).toArray⟩:Str)=z;simp only[List.drop_nil,List.take_nil];cases z;simpa using z0.symm
    rw[e0]at k;exact⟨.str _,H,I,⟨t,rfl⟩,k _ H ha .refl rfl⟩
   ·refine⟨?_,⟨.str _,H,I.tok _,⟨_,rfl⟩,k _ H ha .refl rfl⟩⟩;show(((List.range (b-a)).map λk=>a+k).filterMap (z.cps[·]?)).toArray.size<=_;rw[sizeLine_eq];have:=List.length_filterMap_le (z.cps[·]?) ((List.range (b-a)).map λk=>a+k);simp only[xp,vj]at this;rw[xu];lia
  ·cases e
 ·exact sl_D hK pins s σ H x v vl vu lo hi sl Q I rx hs pl pu ⟨J,S,d1,d,ha,r1,e,k⟩
theorem zZu{l:List D}{its jts:List Value}(hu:X.A.units+64<cLine)(I:Inv X pins σ H s)(q1:RepL X.K J H l xs)(q2:RepL X.K J H m ys)(va:Vals xs its)(vb:Vals ys jts)(hl:∀p∈l.zip m,DS.zZ6 p.1 p.2)(j:Nat)(h1:j<its.length)(h2:j<jts.length):
  SeqAt.EqAt X.A.in1 s its[j] jts[j] (decide (l[j]?=m[j]?)):=by
 have z1:j<xs.length:=by rw[va.length];exact h1
 have z2:j<ys.length:=by rw[vb.length];exact h2
 obtain⟨d,ed,rd⟩:=q1.get' (xo z1);obtain⟨e,ee,re⟩:=q2.get' (xo z2);obtain⟨u,eu,ru⟩:=va.get (xo z1);obtain⟨w,ew,rw_⟩:=vb.get (xo z2);obtain rfl:its[j]=u:=by rw[xo h1]at eu;exact xB eu
 obtain rfl:jts[j]=w:=by rw[xo h2]at ew;exact xB ew
 have hm:=hl (d,e) (vz (List.getElem?_zip_eq_some.mpr ⟨ed,ee⟩));rw[ed,ee,show decide (some d=some e)=decide (d=e)from vc.mpr ⟨xB,λz=>by rw[z]⟩];rcases hm with⟨a,b,e1,e2⟩|⟨a,b,e1,e2⟩|⟨n,hn,l1,l2⟩
 ·dsimp only at e1 e2;subst e1 e2;have rd:xs[j]=.bl a:=rd;have re:ys[j]=.bl b:=re;rw[rd]at ru;rw[re]at rw_;rw[show its[j]=.bool a from ru,show jts[j]=.bool b from rw_,show decide (D.bl a=D.bl b)=(a == b) by rw[vn];simp];exact SeqAt.EqAt.bool_bool _ _
 ·dsimp only at e1 e2;subst e1 e2;have rd:xs[j]=.str a:=rd;have re:ys[j]=.str b:=re;rw[rd]at ru;rw[re]at rw_;obtain⟨t,e1⟩:=ru;obtain⟨t',e2⟩:=rw_;rw[e1,e2,show decide (D.str a=D.str b)=(a == b) by rw[vn];simp];exact SeqAt.EqAt.str_str _ _ _ _
 ·exact λprog w E Q hq=>zRr n (zLk I n l1 rd ru) (zLk I n l2 re rw_) (by show X.A.units+1+n<cLine;lia) hq
theorem zSk(hu:X.A.units+64<cLine)(hK:X.K=K:=by rfl):OpR X (compareOp .Eq) (r2Of K DS.eqY):=by
 subst hK;intro pins s σ H x y v u Q I rx ry hq41;obtain⟨J,S,d1,d2,d,ha,r1,r2,e,k⟩:=hq41;unfold DS.eqY at e;split at e
 ·cases e;obtain rfl:=r1;obtain rfl:=r2;obtain⟨t,rfl⟩:=rx;obtain⟨t',rfl⟩:=ry;exact SeqAt.RcAt.str_str _ _ _ _ _ _ _ _ ⟨.bl _,H,I,rfl,k _ H ha .refl rfl⟩
 ·split at e
  ·rename_i l m hs;cases e;obtain⟨a,xs,rfl,t1,q1⟩:=r1;obtain⟨b,ys,rfl,t2,q2⟩:=r2;cases rx;cases ry;obtain⟨its,va,ta,_⟩:=I.tuple t1.sq;obtain⟨jts,vb,tb,_⟩:=I.tuple t2.sq;refine SeqAt.RcAt.tuples (e:=λj=>decide (l[j]?=m[j]?)) (show s.heap.IsTuple a its.toArray from ta) (show s.heap.IsTuple b jts.toArray from tb) (by nofun) (λj h1 h2=>?_) _ _ _ _ ?_
   ·simp only[uJ];exact zZu hu I q1 q2 va vb hs j (by simpa using h1) (by simpa using h2)
   ·simp only[xu];rw[<- va.length,<- vb.length,<- q1.length,<- q2.length,zT8];exact⟨.bl _,H,I,rfl,k _ H ha .refl rfl⟩
  ·cases e
 ·cases e
end
theorem zK8(its:List Value):∀(k:Nat) (acc:List Value),List.foldl (λx1 x2=>x1++x2) acc.toArray (List.replicate k its.toArray)=(acc++(List.replicate k its).flatten).toArray
 | 0,acc=>by simp
 | k+1,acc=>by
  rw[uC,List.foldl_cons,show acc.toArray++its.toArray=(acc++its).toArray by simp,zK8 its k];simp[uC]
theorem zJh(h:Vals xs us):∀k:Nat,Vals (List.replicate k xs).flatten (List.replicate k us).flatten
 | 0=>.nil
 | k+1=>by simpa[uC]using h.append (zJh h k)
section
variable {X:Cx}{K:PySem.W.Frag}{J:Js}{S:Store}{H:Hp}
theorem zMq(h:RepL K J H ds xs):∀k:Nat,RepL K J H (List.replicate k ds).flatten (List.replicate k xs).flatten
 | 0=>rfl
 | k+1=>by simpa[uC]using h.append (zMq h k)
end
end L2
namespace PySem
open Sem (wp)
open Builtin AutoSeq1
theorem zF3:fillsNumberSlot (.type "tuple") "mul"=pure false:=
 fillsNumberSlot_seq F.slot_tuple_mul.lookup (by decide +kernel) F.slot_tuple_rmul.lookup (by decide +kernel)
theorem zKx:seqRepeat? (.type "tuple")=pure (some (.builtin "tuple.__mul__")):=by unfold seqRepeat?;rw[seqSlot_of (name:="__mul__") F.slot_tuple_mul.lookup (by decide +kernel),seqSlot_of (name:="__rmul__") F.slot_tuple_rmul.lookup (by decide +kernel)];rfl
theorem zH2(a:Int)(t:Tok)(l:Addr)(o:Obj)(its:Array Value)(n:Nat)(hc:o.cls=.type "tuple")(hd:o.data=.seq its n):
  Meets (Builtin.«int.__rmul__» ⟨[.int a t,.ref l],[]⟩) (λ_ R s=>s.heap.get? l=some o/\R (.ok (.ret Value.notImplemented)) s):=
 .of_wp λprog w A R s h=>by obtain⟨hp,g,d,tk,os⟩:=s;obtain⟨cls,dict,data,sl⟩:=o;cases hc;cases hd;obtain⟨hl,h⟩:=h;wp_walk;exact⟨_,rfl,h⟩
theorem zMb(a:Int)(t:Tok)(l:Addr)(o:Obj)(its:Array Value)(n:Nat)(hc:o.cls=.type "tuple")(hd:o.data=.seq its n)(h1:a=1):
  Meets (Builtin.«tuple.__mul__» ⟨[.ref l,.int a t],[]⟩) (λ_ R s=>s.heap.get? l=some o/\R (.ok (.ret (.ref l))) s):=
 .of_wp λprog w A R s h=>by
  obtain⟨hp,g,d,tk,os⟩:=s;obtain⟨cls,dict,data,sl⟩:=o;cases hc;cases hd;subst h1;obtain⟨hl,h⟩:=h;have f1:=AutoSeq1.idx_int;have f2:=AutoSeq1.sub_tuple_tuple;wp_walk using wpAny_loadPart' hl;exact⟨_,rfl,h⟩
theorem zMa(a:Int)(t:Tok)(l:Addr)(o:Obj)(its:Array Value)(n:Nat)(hc:o.cls=.type "tuple")(hd:o.data=.seq its n)(h1:2<=a)(h2:a<=1000000)(he:its.isEmpty=false)(hz:its.size*a.toNat<=sizeLine):
  Meets (Builtin.«tuple.__mul__» ⟨[.ref l,.int a t],[]⟩) (λ_ R s=>s.heap.get? l=some o/\R (.ok (.ret (.ref s.heap.objs.size))) { s with heap:=s.heap.push { cls:=.type "tuple",data:=.seq ((List.replicate a.toNat its).foldl (λx y=>x++y) #[]) } }):=
 .of_wp λprog w A R s h=>by
  obtain⟨hp,g,d,tk,os⟩:=s;obtain⟨cls,dict,data,sl⟩:=o;cases hc;cases hd;obtain⟨hl,h⟩:=h;have f1:=AutoSeq1.idx_int;have f2:=AutoSeq1.sub_tuple_tuple;have sl':sizeLine<=2 ^ 24:=by decide
  have hz2:(its.size:Int)*a<=2 ^ 24:=by
   have e:(its.size:Int)*a=((its.size*a.toNat:Nat):Int):=by rw[Int.natCast_mul,Int.toNat_of_nonneg (by nofun)]
   rw[e];have:=xq hz sl';exact_mod_cast this
  have g1:¬ (decide (a < -2 ^ 63) || decide (a >= 2 ^ 63))=true:=by simp;lia
  have g2:¬ (its.isEmpty || a == 1)=true:=by rw[he];simp;lia
  have g3:¬ (decide (a<=0) || its.isEmpty)=true:=by rw[he];simp;lia
  have g4:¬ ((its.size:Int)*a > (2 ^ 63-1) / 8):=by nofun
  have g5:¬ Builtin.Tuple.tupleTooMany ((its.size:Int)*a)=true:=by simp[Builtin.Tuple.tupleTooMany];lia
  have g6:(List.foldl (λx1 x2=>x1++x2) #[] (List.replicate a.toNat its)).size<=sizeLine:=by rw[AutoSeq1.size_joined];simpa[Nat.mul_comm]using hz
  wp_walk using wpAny_loadPart' hl
  rw[xf g1]
  wp_walk using wpAny_loadPart' hl
  rw[xf g2]
  wp_walk using wpAny_loadPart' hl
  rw[xf g3]
  wp_walk using wpAny_loadPart' hl
  rw[xf g4]
  wp_walk using wpAny_loadPart' hl
  exact⟨_,rfl,h⟩
end PySem
namespace L2
open PySem PySem.Spec PyProof.Rows
open DS (D Store Exn Rs SR)
section
variable {X:Cx}{K:PySem.W.Frag}{J:Js}{S:Store}{H:Hp}
theorem zVh{xs:List V}{n:Int}{t:Tok}{Q:VK}(I:Inv X pins σ H s)(hs:SqT X.K H a xs)(hx:xs≠[])(h0:1<=n)(h2:n<=1000000)(hz:xs.length*n.toNat<=sizeLine)
  (q1:n=1->Q (.ref a) H) (q:∀p,H p=none->Q (.ref p) (upd H p (.tup (List.replicate n.toNat xs).flatten))):wpAny (model X.prog X.w) X.A (binaryOp .Mult (.ref a) (.int n t)) (EP X pins σ Q) X.xe s:=by
 obtain⟨its,r,⟨o,e,hc,k,hd⟩,_⟩:=I.tuple hs;have hl:=r.length;have ne:its.toArray.isEmpty=false:=by
  cases its with
  | nil=>exact absurd (uP hl) hx
  | cons u us=>rfl
 have sz:its.toArray.size*n.toNat<=sizeLine:=by rw[xu,<- hl];exact hz
 refine wpAny_binaryOp_repeat_ref (by decide) ⟨_,e,hc⟩ (λs'=>typeIs_int s' n t) zF3 F.fills_int_mul F.slot_int_rmul zKx F.slot_int_index.lookup ?_;refine vM F.slot_int_rmul (typeIs_int s n t) F.entry_int_rmul (F.args_int_rmul_2 _ _) (zH2 n t a o _ _ hc hd) ⟨e,rfl,⟨_,e,hc⟩,?_⟩;by_cases h1:n=1
 ·exact vM F.slot_tuple_mul ⟨_,e,hc⟩ F.entry_tuple_mul (F.args_tuple_mul_2 _ _) (zMb n t a o _ _ hc hd h1) ⟨e,.ref a,H,I,rfl,q1 h1⟩
 ·refine vM F.slot_tuple_mul ⟨_,e,hc⟩ F.entry_tuple_mul (F.args_tuple_mul_2 _ _) (zMa n t a o _ _ hc hd (by nofun) h2 ne sz) ⟨e,?_⟩;rw[show(#[]:Array Value)=([]:List Value).toArray from rfl,zK8 its n.toNat [],ue];have hzz:(List.replicate n.toNat xs).flatten.length<=sizeLine:=by rw[len_rep,Nat.mul_comm];exact hz
  exact⟨.ref s.heap.objs.size,_,I.laid (o:=.tup (List.replicate n.toNat xs).flatten) (λb ob z=>xm _ z) (xh _) ⟨hzz,_,zJh r n.toNat,IsTup.new _ _⟩,rfl,q _ I.fresh⟩
theorem zV3(hK:X.K=K:=by rfl):OpR X (binaryOp .Mult) (r2Of K DS.mulT):=by
 intro pins s σ H x y v u Q I rx ry hq42;obtain⟨J,S,d1,d2,d,ha,r1,r2,e,k⟩:=hq42;unfold DS.mulT at e;split at e
 ·rename_i l n;split at e
  ·rename_i h;subst hK;cases e;obtain⟨a,xs,rfl,t1,q1⟩:=id r1;obtain rfl:=r2;cases rx;obtain⟨t,rfl⟩:=ry;have el:=q1.length;refine zVh I t1.sq (λz=>h.1 (by subst z;exact uP el)) h.2.1 h.2.2.2 (by rw[<- el];exact h.2.2.1) (λz=>?_) λp n=>k _ _ (ha.push n) (.push n) ⟨p,_,rfl,⟨zAb,ha.out n⟩,RepL.grow (.push n) _ _ (zMq q1 _)⟩
   subst z;have e1:(List.replicate (1:Int).toNat l).flatten=l:=by simp
   rw[e1]at k;exact k _ H ha .refl ⟨a,xs,rfl,t1,q1⟩
  ·cases e
 ·exact zIg pins s σ H x y v u Q I rx ry ⟨J,S,d1,_,d,ha,r1,r2,e,k⟩
end
end L2
namespace DS
open PySem (Str)
section
open Classical
theorem zFl{n:Nat}:∀(S:Store),keeps n S S
 | []=>trivial
 | _::r=>⟨.inl rfl,zFl r⟩
theorem zK3{n:Nat}:∀{S S':Store},S.length=S'.length->(∀(i:Nat) (d:D),S'[i]?=some d->S[i]?=some d\/d.low n=true)->keeps n S S'
 | [],_,_,_=>trivial
 | a::r,[],e,_=>by simp at e
 | a::r,b::t,e,h=>⟨by
   rcases h 0 b rfl with q|q
   ·exact .inl (by simpa using q)
   ·exact .inr q,zK3 (by simpa using e) λi d q=>by simpa using h (i+1) d (by simpa using q)⟩
theorem zRo{S:Store}{d:D}(h:d.low S.length=true):fin S d S=.ok d S:=by unfold fin;rw[xc (zFl S),xc h,List.take_length]
theorem zZs{S S':Store}{d:D}(e:S.length=S'.length)(k:∀(i:Nat) (d:D),S'[i]?=some d->S[i]?=some d\/d.low S.length=true)(h:d.low S.length=true):fin S d S'=.ok d S':=by unfold fin;rw[xc (zK3 e k),xc h,e,List.take_length]
theorem atN{i:Int}{k:Nat}(h:i=(k:Int))(e:l[k]?=some d):atL l i=some d:=by obtain⟨hk,_⟩:=xC.mp e;unfold atL ixN;rw[xc (by nofun),xc (by nofun)];show l[i.toNat]?=some d;rw[show i.toNat=k by nofun];exact e
theorem atM{l:List D}{i:Int}{k:Nat}(h:i=(k:Int)-l.length)(e:l[k]?=some d):atL l i=some d:=by obtain⟨hk,_⟩:=xC.mp e;unfold atL ixN;rw[xf (by nofun),xc (by nofun)];show l[(i+l.length).toNat]?=some d;rw[show(i+l.length).toNat=k by nofun];exact e
theorem atL0 :atL (d::l) 0=some d:=atN rfl rfl
theorem atL1 :atL (d::e::l) 1=some e:=atN rfl rfl
theorem atL2 :atL (d::e::f::l) 2=some f:=atN rfl rfl
theorem atL3 :atL (d::e::f::g::l) 3=some g:=atN rfl rfl
theorem ixT{i:Int}:ixD S (.tup l) (.int i)=atL l i:=rfl
theorem ixL{i:Int}:ixD S (.lst l) (.int i)=atL l i:=rfl
theorem zNu :items S (.tup l)=some l:=rfl
theorem zNv :items S (.lst l)=some l:=rfl
theorem zR9 :look S (.tup l)=some (.tup l):=rfl
theorem zRa :look S (.lst l)=some (.lst l):=rfl
theorem zRb{i:Int}:look S (.int i)=some (.int i):=rfl
theorem zVm :look S (.bl b)=some (.bl b):=rfl
theorem zDz{a b:Int}(h:sm a/\sm b):mulD S (.int a) (.int b)=some (.int (a*b)):=xc h
end
end DS
local macro_rules | `(tactic| simp_arith [$ls,*]) => `(tactic| simp only [DS.sSeq, DS.sSet, DS.sRet, DS.yB5, DS.zAd, DS.sIf, DS.sUnp, DS.zAp, DS.sPar, DS.zMi, DS.eVar, DS.eC, DS.eOp, DS.eUn, DS.aNil, DS.zA0, DS.eTup, DS.eLst, DS.eCB, DS.zA3, DS.eSl, DS.pNo, DS.pYes, DS.asI, DS.asB, DS.tB, DS.tAnd, DS.tOr, DS.tNot, DS.tYes, DS.eAnd, DS.eOr, DS.eNot, DS.eIf, DS.Rs.bind_ok, DS.Rs.then_ok, DS.zDk, DS.zLa, DS.gName, DS.gTup, DS.gAll, DS.zNu, DS.zNv, DS.zR9, DS.zRa, DS.zRb, DS.zVm, uy, Option.map_none, uQ, List.getElem?_cons_succ, List.set_cons_zero, List.set_cons_succ, xv, vo, xt, vp, List.replicate, vG, ue, Nat.zero_add, Nat.reduceAdd, Nat.reduceSub, Nat.reduceLT, Nat.reduceEqDiff, xW, xZ, DS.addD, DS.subD, DS.ixT, DS.ixL, DS.atL0, DS.atL1, DS.atL2, DS.atL3, Bool.not_true, Bool.not_false, vi, reduceIte, $ls,*])
namespace DS
open PySem (Str)
section
open Classical
noncomputable abbrev yBw:D:=.str (Str.ofString "seed")
noncomputable abbrev kNum:D:=.str (Str.ofString "number")
noncomputable abbrev yBx:D:=.str (Str.ofString "left")
noncomputable def yC9 (seed num:Int) (m:Nat):D:=.dct false [yBw,kNum,yBx] [.int seed,.int num,.ref m]
structure yCv (S:Store) (n m:Nat) (seed num:Int) (left:List Int):Prop where
 d:S[n]?=some (yC9 seed num m)
 l:S[m]?=some (.lst (left.map D.int))
 ne:n≠m
 lo:0<=seed
 hi:seed<2147483647
section
variable {S:Store}{n m:Nat}{seed num:Int}{left:List Int}
structure Only (n m:Nat) (S S':Store):Prop where
 len:S'.length=S.length
 at_:∀k,k≠n->k≠m->S'[k]?=S[k]?
theorem Only.refl:Only n m S S:=⟨rfl,λ_ _ _=>rfl⟩
theorem Only.trans(a:Only n m S S')(b:Only n m S' S''):Only n m S S'':=⟨b.len.trans a.len,λk h1 h2=>(b.at_ k h1 h2).trans (a.at_ k h1 h2)⟩
theorem Only.set1(d:D):Only n m S (S.set n d):=⟨by simp,λk h1 _=>vJ (xA h1)⟩
theorem zD6{x:Int}(h1:0<=x)(h2:x<2147483648):sm x:=zTu (by nofun) (by nofun)
theorem zO4{a b:Int}(hb:0<b)(hs:sm b):zGi S (.int a) (.int b)=some (.int (a.fdiv b)):=xc ⟨by nofun,hs⟩
theorem zC9{a b:Int}(hb:0<b):modD S (.int a) (.int b)=some (.int (a % b)):=xc hb
end
structure AtJ (env:Env) (j:Nat) (d:D) (env':Env):Prop where
 len:env'.length=env.length
 at_:env'[j]?=some (some d)
 o:∀i:Nat,i≠j->env'[i]?=env[i]?
theorem zB1 :gOk S []:=λ_ h=>nomatch h
theorem zAc{np nl:Nat}{b:SM}{ds:List D}{S:Store}{d:D}(hl:ds.length=np)(h:b (ds.map some++List.replicate (nl-np) none) S=.rt d S)(hd:d.low S.length=true):zAg np nl b ds S=.ok d S:=by unfold zAg;rw[xc hl,h];exact zRo hd
structure Grow (n m:Nat) (S S':Store):Prop where
 len:S.length<=S'.length
 at_:∀k,k<S.length->k≠n->k≠m->S'[k]?=S[k]?
section
variable {n m:Nat}{S S' S'':Store}
theorem Grow.trans(a:Grow n m S S')(b:Grow n m S' S''):Grow n m S S'':=⟨xq a.len b.len,λk h h1 h2=>(b.at_ k (xw h a.len) h1 h2).trans (a.at_ k h h1 h2)⟩
theorem Only.grow(a:Only n m S S'):Grow n m S S':=⟨by rw[a.len];exact xh _,λk _ h1 h2=>a.at_ k h1 h2⟩
theorem Grow.app(T:Store):Grow n m S (S++T):=⟨by simp,λk h _ _=>xN h⟩
theorem Grow.set{c:Nat}(a:Grow n m S S')(h:S.length<=c):Grow n m S (S'.set c d):=⟨by simpa using a.len,λk hk h1 h2=>by rw[vJ (by nofun)];exact a.at_ k hk h1 h2⟩
theorem zHa{n:Nat}:∀{S S':Store},S.length<=S'.length->(∀(i:Nat) (d:D),i<S.length->S'[i]?=some d->S[i]?=some d\/d.low n=true)->keeps n S S'
 | [],_,_,_=>trivial
 | a::r,[],e,_=>by simp at e
 | a::r,b::t,e,h=>⟨by
   rcases h 0 b (by simp) rfl with q|q
   ·exact .inl (by simpa using q)
   ·exact .inr q,zHa (by simpa using e) λi d hi q=>by simpa using h (i+1) d (by simpa using hi) (by simpa using q)⟩
end
theorem zQ7{k:Int}(h0:0<=k)(h:k<1000000):zG5 [.int k]=some ⟨(List.range k.toNat).map fun(i:Nat)=>.int (i:Int),[]⟩:=by show(if fits62 k=true then some (Walk.mk (zFf 0 k) [])else none)=_;rw[xc (by unfold fits62;exact xj ⟨by nofun,by nofun⟩)];unfold zFf;simp
theorem zW2{c:Nat}(h:S[c]?=some d):gOk S [(c,d)]:=λp hp=>by rw[xx.mp hp];exact h
theorem zPt{c:Nat}(h:S[c]?=some (.lst l)):zDw S (.ref c)=some ⟨l,[(c,.lst l)]⟩:=by unfold zDw look gdOf;simp only[h]
theorem zOt{α β:Type}{h:α->D}{k:β->D}{gd:List (Nat × D)}{g:GM}{e:EM}{I:Env->Prop}{J:Store->Prop}{P:β->Prop}(hg:∀S,J S->gOk S gd):∀(xs:List α) (c:Nat) (env:Env) (S:Store),I env->J S->c+xs.length<=most->
  (∀a∈xs,∀env S,I env->J S->∃env' b S',g S (h a) env=some env'/\I env'/\e env' S=.ok (k b) S'/\P b/\J S')->∃(bs:List β) (S':Store),zD9 gd g tYes e c (xs.map h) env S=.ok (bs.map k) S'/\bs.length=xs.length/\(∀b∈bs,P b)/\J S'
 | [],c,env,S,_,hj,_,_=>⟨[],S,by rw[vp,zD9,xc (hg S hj)];rfl,rfl,(λb hb=>nomatch hb),hj⟩
 | a::xs,c,env,S,hi,hj,hk,he=>by
  have hk':c+(xs.length+1)<=most:=hk;obtain⟨env',b,S1,e1,i1,e2,p,j1⟩:=he a (.head _) env S hi hj;obtain⟨bs,S2,e3,l3,p3,j3⟩:=zOt hg xs (c+1) env' S1 i1 j1 (by nofun) λa ha=>he a (.tail _ ha)
  refine⟨b::bs,S2,?_,by simp[l3],λz hz=>?_,j3⟩
  ·rw[xt,zD9,xc ⟨hg S hj,by nofun⟩,e1];show(tYes env' S).bind _=_;rw[tYes,Rs.bind_ok,xc rfl,e2,Rs.bind_ok,e3,Rs.bind_ok];rfl
  ·rcases xr.mp hz with rfl|z
   ·exact p
   ·exact p3 _ z
theorem zIt{α β:Type}{h:α->D}{k:β->D}{ix:List Nat}{i:IM}{gd:List (Nat × D)}{g:GM}{e:EM}{xs:List α}(I:Env->Prop)(J:Store->Prop)(P:β->Prop)(hi:i env S0=.ok ⟨xs.map h,gd⟩ S)(hg:∀S,J S->gOk S gd)(h0:I (compEnv own ix env))(j0:J S)(hk:xs.length<=most)
  (he:∀a∈xs,∀env S,I env->J S->∃env' b S',g S (h a) env=some env'/\I env'/\e env' S=.ok (k b) S'/\P b/\J S'):∃(bs:List β) (S':Store),zAv own ix i g tYes e env S0=.ok (.lst (bs.map k)) S'/\bs.length=xs.length/\(∀b∈bs,P b)/\J S':=by
 obtain⟨bs,S',e1,l1,p1,j1⟩:=zOt hg xs 0 _ S h0 j0 (by nofun) he;refine⟨bs,S',?_,l1,p1,j1⟩;rw[zAv,hi,Rs.bind_ok];rw[e1,Rs.bind_ok]
section
variable {n m c:Nat}{S S' S0:Store}{d:D}
theorem yCs{l:List D}(h:S[c]?=some (.lst l))(hl:l.length<1000):zAi S (.ref c) [d]=some (.non,S.set c (.lst (l++[d]))):=by
 unfold zAi;simp only[h];have m9:1000<=most:=by decide
 rw[xc (by nofun)]
theorem ty_D(h:S[c]?=some (.lst l)):tyD S (.ref c)=some "list":=by unfold tyD;rw[show look S (.ref c)=_ from h]
end
theorem zHb{n:Nat}:∀(S T:Store),keeps n S (S++T)
 | [],_=>trivial
 | a::S,T=>⟨.inl rfl,zHb S T⟩
theorem zD4{np nl:Nat}{b:SM}{ds:List D}{S:Store}{d:D}(hl:ds.length=np)(h:b (ds.map some++List.replicate (nl-np) none) S=.rt d (S++T))(lo:d.low S.length=true):zAg np nl b ds S=.ok d S:=by unfold zAg;rw[xc hl,h];dsimp only;unfold fin;rw[xc (zHb S T),xc lo,List.take_left]
theorem zT4{α:Type}{h f:α->D}{gd:List (Nat × D)}{g:GM}{e:EM}{I:Env->Prop}(hg:gOk S gd):∀(xs:List α) (k:Nat) (env:Env),I env->k+xs.length<=most->
  (∀a∈xs,∀env,I env->∃env',g S (h a) env=some env'/\I env'/\e env' S=.ok (f a) S)->zD9 gd g tYes e k (xs.map h) env S=.ok (xs.map f) S
 | [],k,env,_,_,_=>by rw[vp,zD9,xc hg];rfl
 | a::xs,k,env,hi,hk,he=>by
  have hk':k+(xs.length+1)<=most:=hk;obtain⟨env',e1,e2,e3⟩:=he a (.head _) env hi;rw[xt,zD9,xc ⟨hg,by nofun⟩,e1];dsimp only;rw[tYes,Rs.bind_ok,xc rfl,e3,Rs.bind_ok,zT4 hg xs (k+1) env' e2 (by nofun) λb hb=>he b (.tail _ hb),Rs.bind_ok];rfl
theorem zCw{α:Type}{h f:α->D}{ix:List Nat}{i:IM}{gd:List (Nat × D)}{g:GM}{e:EM}{xs:List α}(I:Env->Prop)(hi:i env S=.ok ⟨xs.map h,gd⟩ S)(hg:gOk S gd)(h0:I (compEnv own ix env))(hk:xs.length<=most)
  (he:∀a∈xs,∀env,I env->∃env',g S (h a) env=some env'/\I env'/\e env' S=.ok (f a) S):zAv own ix i g tYes e env S=.ok (.lst (xs.map f)) S:=by
 rw[zAv,hi,Rs.bind_ok];rw[zT4 hg xs 0 _ h0 (by nofun) he,Rs.bind_ok]
theorem zOr{α:Type}{h f:α->D}{p:α->Bool}{gd:List (Nat × D)}{g:GM}{c:TM}{e:EM}{I:Env->Prop}(hg:gOk S gd):∀(xs:List α) (k:Nat) (env:Env),I env->k+xs.length<=most->
  (∀a∈xs,∀env,I env->∃env',g S (h a) env=some env'/\I env'/\c env' S=.ok (p a) S/\(p a=true->e env' S=.ok (f a) S))->zD9 gd g c e k (xs.map h) env S=.ok ((xs.filter p).map f) S
 | [],k,env,_,_,_=>by rw[vp,zD9,xc hg];rfl
 | a::xs,k,env,hi,hk,he=>by
  have hk':k+(xs.length+1)<=most:=hk;obtain⟨env',e1,i1,e2,e3⟩:=he a (.head _) env hi;rw[xt,zD9,xc ⟨hg,by nofun⟩,e1];show(c env' S).bind _=_;rw[e2,Rs.bind_ok];cases q:p a with
  | true=>
   rw[xc rfl,e3 q,Rs.bind_ok,zOr hg xs (k+1) env' i1 (by nofun) λb hb=>he b (.tail _ hb),Rs.bind_ok,uf,xc q];rfl
  | false=>
   rw[xf (by decide),zOr hg xs k env' i1 (by nofun) λb hb=>he b (.tail _ hb),uf,xf (by rw[q];decide)]
theorem zWb{α:Type}{h f:α->D}{p:α->Bool}{ix:List Nat}{i:IM}{gd:List (Nat × D)}{g:GM}{c:TM}{e:EM}{xs:List α}(I:Env->Prop)(hi:i env S=.ok ⟨xs.map h,gd⟩ S)(hg:gOk S gd)(h0:I (compEnv own ix env))(hk:xs.length<=most)
  (he:∀a∈xs,∀env,I env->∃env',g S (h a) env=some env'/\I env'/\c env' S=.ok (p a) S/\(p a=true->e env' S=.ok (f a) S)):zAv own ix i g c e env S=.ok (.lst ((xs.filter p).map f)) S:=by
 rw[zAv,hi,Rs.bind_ok];rw[zOr hg xs 0 _ h0 (by nofun) he,Rs.bind_ok]
theorem zK7{α:Type}{h:α->D}{gd:List (Nat × D)}{g:GM}{b:SM}{ys:List α}(I:List α->Env->Store->Prop)(hg:∀P env S,I P env S->gOk S gd)(he:∀P a R,ys=P++a::R->∀env S,I P env S->∃env' env'' S',g S (h a) env=some env'/\b env' S=.nx env'' S'/\I (P++[a]) env'' S'):∀(xs P:List α) (env:Env) (S:Store),ys=P++xs->I P env S->∃env' S',forL gd g b (xs.map h) env S=.nx env' S'/\I ys env' S'
 | [],P,env,S,e,hi=>⟨env,S,by rw[vp,forL,xc (hg P env S hi)],by rw[e,xY];exact hi⟩
 | a::xs,P,env,S,e,hi=>by
  obtain⟨env',env'',S1,e1,e2,e3⟩:=he P a xs e env S hi;obtain⟨e4,S2,e5,e6⟩:=zK7 I hg he xs (P++[a]) env'' S1 (by rw[e];simp) e3;refine⟨e4,S2,?_,e6⟩;rw[xt,forL,xc (hg P env S hi),e1];dsimp only;rw[e2];exact e5
def FeedAt(S:Store)(c:Nat)(own seed:Int):Prop:=S[c]?=some (.lst [.int own,.int seed])/\0<=seed/\seed<=2147483629
def Feed(S:Store)(c:Nat):Prop:=∃own seed,FeedAt S c own seed
noncomputable def zPj:SM:=
  (sSeq (sIf (tB (eOp gtD (eOp ixD (eVar 0) (eC (.int 0))) (eC (.int 0)))) (sSeq (sSet 2 (eOp modD (eOp ixD (eVar 0) (eC (.int 0))) (eVar 1)))
  (sSeq (sPut putD (eVar 0) (eC (.int 0)) (eOp zGi (eOp ixD (eVar 0) (eC (.int 0))) (eVar 1)))
  (sRet (eVar 2)))) zAd)
  (sSeq (sSet 3 (eOp modD (eOp mulD (eOp ixD (eVar 0) (eC (.int 1))) (eC (.int 69623))) (eC (.int 2147483647))))
  (sSeq (sPut putD (eVar 0) (eC (.int 1)) (eOp addD (eOp modD (eOp addD (eOp mulD (eVar 3) (eC (.int 48271))) (eC (.int 30103))) (eC (.int 2147483629))) (eC (.int 1))))
  (sRet (eOp modD (eOp zGi (eOp addD (eOp mulD (eVar 3) (eC (.int 2147483647))) (eOp ixD (eVar 0) (eC (.int 1)))) (eC (.int 8191))) (eVar 1))))))
section
variable {S S':Store}{c:Nat}{own seed:Int}
theorem FeedAt.ix0(h:FeedAt S c own seed):ixD S (.ref c) (.int 0)=some (.int own):=by unfold ixD look;simp only[h.1];exact atL0
theorem FeedAt.ix1(h:FeedAt S c own seed):ixD S (.ref c) (.int 1)=some (.int seed):=by unfold ixD look;simp only[h.1];exact atL1
theorem FeedAt.put0(h:FeedAt S c own seed)(x:Int):putD S (.ref c) (.int 0) (.int x)=some (S.set c (.lst [.int x,.int seed])):=by unfold putD;simp only[h.1];rfl
theorem FeedAt.put1(h:FeedAt S c own seed)(x:Int):putD S (.ref c) (.int 1) (.int x)=some (S.set c (.lst [.int own,.int x])):=by unfold putD;simp only[h.1];rfl
theorem Feed.lt(h:Feed S c):c<S.length:=by obtain⟨_,_,h⟩:=h;exact(xC.mp h.1).1
theorem FeedAt.set(h:FeedAt S c own seed){a b:Int}(h1:0<=b)(h2:b<=2147483629):FeedAt (S.set c (.lst [.int a,.int b])) c a b:=⟨by rw[vI (Feed.lt ⟨_,_,h⟩)],h1,h2⟩
theorem Feed.app(h:Feed S c)(T:Store):Feed (S++T) c:=by have l:=h.lt;obtain⟨a,b,h,h1,h2⟩:=h;exact⟨a,b,by rw[xN l];exact h,h1,h2⟩
theorem Feed.setO{k:Nat}(h:Feed S c)(h1:k≠c):Feed (S.set k d) c:=by obtain⟨a,b,h,h2⟩:=h;exact⟨a,b,by rw[vJ h1];exact h,h2⟩
theorem zFn(h':Feed S' c)(g:Grow c c S S'):keeps S.length S S':=by
 refine zHa g.len λi e hi he=>?_
 obtain⟨_,_,h',_⟩:=h';by_cases h1:i=c
 ·subst h1;rw[h']at he;cases he;exact .inr rfl
 ·rw[g.at_ i hi h1 h1]at he;exact .inl he
theorem zK9(h:Feed S c)(h':Feed S' c)(g:Grow c c S S'):Feed (S'.take S.length) c/\Only c c S (S'.take S.length):=by
 have l:=h.lt;obtain⟨a,b,h',h2⟩:=h';refine⟨⟨a,b,by rw[v3 l];exact h',h2⟩,by rw[vg];have:=g.len;lia,λk h1 h2=>?_⟩;by_cases hk:k<S.length
 ·rw[v3 hk];exact g.at_ k hk h1 h2
 ·rw[x6 (by rw[vg];lia),x6 (by(lia))]
theorem zBb{np nl:Nat}{b:SM}{ds:List D}{d:D}(hl:ds.length=np)(h:b (ds.map some++List.replicate (nl-np) none) S=.rt d S')(h0:Feed S c)(h1:Feed S' c)(o:Grow c c S S')(hd:d.low S.length=true):∃S'',zAg np nl b ds S=.ok d S''/\Feed S'' c/\Only c c S S'':=by obtain⟨a,b'⟩:=zK9 h0 h1 o;refine⟨S'.take S.length,?_,a,b'⟩;unfold zAg;rw[xc hl,h];dsimp only;unfold fin;rw[xc (zFn h1 o),xc hd]
theorem zIz{np nl n:Nat}{b:SM}{ds:List D}{d:D}(hl:ds.length=np)(h:b (ds.map some++List.replicate (nl-np) none) S=.rt (.ref n) S')(h0:Feed S c)(h1:Feed S' c)(o:Grow c c S S')(hn:S.length<=n)(hd:S'[n]?=some d)(lo:d.low S.length=true):∃S'',zAg np nl b ds S=.ok d S''/\Feed S'' c/\Only c c S S'':=by obtain⟨a,b'⟩:=zK9 h0 h1 o;refine⟨S'.take S.length,?_,a,b'⟩;unfold zAg;rw[xc hl,h];dsimp only;unfold fin;rw[xc (zFn h1 o),xf (by show ¬ decide (n<S.length)=true;simpa using hn)];dsimp only;rw[hd];dsimp only;rw[xc lo]
theorem zTp{many:Int}(hm:0<many)(hs:sm many)(h:Feed S c):∃(r:Int) (S':Store),zAg 2 4 zPj [.ref c,.int many] S=.ok (.int r) S'/\0<=r/\r<many/\Feed S' c/\Only c c S S':=by
 obtain⟨own,seed,h⟩:=h;have g:gtD S (.int own) (.int 0)=some (.bl (decide (0<own))):=rfl;by_cases hp:0<own
 ·have p1:=h.put0 (own.fdiv many);have f1:Feed (S.set c (.lst [.int (own.fdiv many),.int seed])) c:=⟨_,_,h.set h.2.1 h.2.2⟩;obtain⟨S'',e,a,b⟩:=zBb (np:=2) (nl:=4) (b:=zPj) (ds:=[.ref c,.int many]) (d:=.int (own % many)) rfl (by
   unfold zPj;rw[xj hp]at g;simp_arith [h.ix0,g,zC9 hm,sPut,zO4 hm hs,p1]) ⟨_,_,h⟩ f1 (Only.set1 _).grow rfl
  exact⟨_,S'',e,vX _ (by(lia)),vY _ hm,a,b⟩
 ·rw[xi hp]at g;have m1:mulD S (.int seed) (.int 69623)=some (.int (seed*69623)):=zDz ⟨zD6 h.2.1 (by have:=h.2.2;lia),zD6 (by decide) (by decide)⟩;obtain⟨one,ho⟩:∃one:Int,one=seed*69623 % 2147483647:=⟨_,rfl⟩
  have o0:0<=one:=by rw[ho];exact vX _ (by decide)
  have o9:one<2147483647:=by rw[ho];exact vY _ (by decide)
  obtain⟨nx,hx⟩:∃nx:Int,nx=(one*48271+30103) % 2147483629+1:=⟨_,rfl⟩
  have n0:0<=nx:=by rw[hx];have:=vX (one*48271+30103) (b:=2147483629) (by decide);lia
  have n9:nx<=2147483629:=by rw[hx];have:=vY (one*48271+30103) (b:=2147483629) (by decide);lia
  have m2:mulD S (.int one) (.int 48271)=some (.int (one*48271)):=zDz ⟨zD6 o0 (by(lia)),zD6 (by decide) (by decide)⟩;have p1:=h.put1 nx;have f1:=h.set (a:=own) n0 n9;have m3:∀S,mulD S (.int one) (.int 2147483647)=some (.int (one*2147483647)):=λ_=>zDz ⟨zD6 o0 (by(lia)),zD6 (by decide) (by decide)⟩
  have q1:∀(S:Store) (x:Int),modD S (.int x) (.int 2147483647)=some (.int (x % 2147483647)):=λ_ _=>zC9 (by decide)
  have q2:∀(S:Store) (x:Int),modD S (.int x) (.int 2147483629)=some (.int (x % 2147483629)):=λ_ _=>zC9 (by decide)
  have q3:∀(S:Store) (x:Int),modD S (.int x) (.int many)=some (.int (x % many)):=λ_ _=>zC9 hm
  have q4:∀(S:Store) (x:Int),zGi S (.int x) (.int 8191)=some (.int (x.fdiv 8191)):=λ_ _=>zO4 (by decide) (zD6 (by decide) (by decide))
  obtain⟨S'',e,a,b⟩:=zBb (np:=2) (nl:=4) (b:=zPj) (ds:=[.ref c,.int many]) (d:=.int ((one*2147483647+nx).fdiv 8191 % many)) rfl (by
   unfold zPj;simp_arith [h.ix0,g,h.ix1,m1,q1,<- ho,m2,q2,<- hx,sPut,p1,m3,f1.ix1,q4,q3]) ⟨_,_,h⟩ ⟨_,_,f1⟩ (Only.set1 _).grow rfl
  exact⟨_,S'',e,vX _ (by(lia)),vY _ hm,a,b⟩
end
theorem ix_k{ns:List Int}{k:Nat}(h:k<ns.length):ixD S (.klst (ns.map D.int)) (.int k)=some (.int ns[k]):=by have:atL (ns.map D.int) (k:Int)=some (.int ns[k]):=atN rfl (by simp[h]);exact this
noncomputable def yAv:SM:=
  (sSeq (sSet 2 (eOp addD (eOp mulD (eC (.int 7901)) (eVar 1)) (eC (.int 24697))))
  (sSeq (sIf (tB (eOp ltN (eVar 1) (eCB lenB (zA0 (eVar 0) aNil)))) (sSet 2 (eOp ixD (eVar 0) (eVar 1))) (sIf (tB (eOp gtD (eCB lenB (zA0 (eVar 0) aNil)) (eC (.int 0)))) (sSet 2 (eOp addD (eOp mulD (eOp modD (eOp ixD (eVar 0) (eOp modD (eVar 1) (eCB lenB (zA0 (eVar 0) aNil)))) (eC (.int 2147483629))) (eC (.int 31))) (eOp mulD (eC (.int 7901)) (eVar 1)))) zAd))
  (sSeq (sSet 3 (eC (.int 0)))
  (sSeq (sIf (tB (eOp geD (eVar 2) (eOp powD (eC (.int 10)) (eC (.int 18))))) (sSet 3 (eVar 2)) zAd)
  (sRet (eNew (eLst (zA0 (eVar 3) (zA0 (eOp addD (eOp modD (eOp powD (eOp addD (eOp mulD (eOp modD (eVar 2) (eC (.int 2147483629))) (eC (.int 48271))) (eOp mulD (eC (.int 40692)) (eVar 1))) (eC (.int 5))) (eC (.int 2147483629))) (eC (.int 1))) aNil)))))))))
theorem zRp{S:Store}{s:D}{k:Nat}{x:Int}(hk:k<=63):∃own seed:Int,0<=seed/\seed<=2147483629/\(sSeq (sSet 3 (eC (.int 0)))
  (sSeq (sIf (tB (eOp geD (eVar 2) (eOp powD (eC (.int 10)) (eC (.int 18))))) (sSet 3 (eVar 2)) zAd)
  (sRet (eNew (eLst (zA0 (eVar 3) (zA0 (eOp addD (eOp modD (eOp powD (eOp addD (eOp mulD (eOp modD (eVar 2) (eC (.int 2147483629))) (eC (.int 48271))) (eOp mulD (eC (.int 40692)) (eVar 1))) (eC (.int 5))) (eC (.int 2147483629))) (eC (.int 1))) aNil))))))) [some s,some (.int k),some (.int x),none] S=.rt (.ref S.length) (S++[.lst [.int own,.int seed]]):=by
 have q2:∀(x:Int),modD S (.int x) (.int 2147483629)=some (.int (x % 2147483629)):=λ_=>zC9 (by decide)
 have pw:powD S (.int 10) (.int 18)=some (.int ((10:Int) ^ 18)):=by show(if(0:Int)<=18/\(18:Int)<=1000000/\(10:Int).natAbs<2 ^ 64 then some (D.int ((10:Int) ^ (18:Int).toNat))else none)=_;rw[xc (by decide)];rfl
 have x0:0<=x % 2147483629:=vX _ (by decide);have x9:x % 2147483629<2147483629:=vY _ (by decide);have m1:mulD S (.int (x % 2147483629)) (.int 48271)=some (.int (x % 2147483629*48271)):=zDz ⟨zD6 x0 (by(omega)),zD6 (by decide) (by decide)⟩;have m2:mulD S (.int 40692) (.int k)=some (.int (40692*k)):=zDz ⟨zD6 (by decide) (by decide),zD6 (by(omega)) (by(omega))⟩;have p5:powD S (.int (x % 2147483629*48271+40692*k)) (.int 5)=some (.int ((x % 2147483629*48271+40692*k) ^ 5)):=by show(if(0:Int)<=5/\(5:Int)<=1000000/\(x % 2147483629*48271+40692*k).natAbs<2 ^ 64 then some (D.int ((x % 2147483629*48271+40692*k) ^ (5:Int).toNat))else none)=_;rw[xc ⟨by decide,by decide,by(omega)⟩];rfl
 have s0:=vX ((x % 2147483629*48271+40692*(k:Int)) ^ 5) (b:=2147483629) (by decide);have s9:=vY ((x % 2147483629*48271+40692*(k:Int)) ^ 5) (b:=2147483629) (by decide);have ge:geD S (.int x) (.int ((10:Int) ^ 18))=some (.bl (decide ((10:Int) ^ 18<=x))):=rfl;by_cases c:(10:Int) ^ 18<=x
 ·rw[xj c]at ge;refine⟨x,(x % 2147483629*48271+40692*(k:Int)) ^ 5 % 2147483629+1,?_,?_,by simp_arith [pw,ge,eNew,q2,m1,m2,p5]⟩ <;> omega
 ·rw[xi c]at ge;refine⟨0,(x % 2147483629*48271+40692*(k:Int)) ^ 5 % 2147483629+1,?_,?_,by simp_arith [pw,ge,eNew,q2,m1,m2,p5]⟩ <;> omega
theorem zW9{S:Store}{ns:List Int}{k:Nat}(hk:k<=63):∃own seed:Int,0<=seed/\seed<=2147483629/\zGo 2 4 yAv [.klst (ns.map D.int),.int k] S=.ok (.ref S.length) (S++[.lst [.int own,.int seed]]):=by
 have m1:mulD S (.int 7901) (.int k)=some (.int (7901*k)):=zDz ⟨zD6 (by decide) (by decide),zD6 (by(lia)) (by(lia))⟩;have ln:lenB S [.klst (ns.map D.int)]=some (.int ns.length):=by show some (D.int ((ns.map D.int).length:Int))=_;rw[xp]
 have l1:ltN S (.int k) (.int ns.length)=some (.bl (decide ((k:Int)<ns.length))):=rfl;have g1:gtD S (.int ns.length) (.int 0)=some (.bl (decide ((0:Int)<ns.length))):=rfl
 suffices h:∃x:Int,∀r,(sSeq (sSet 2 (eOp addD (eOp mulD (eC (.int 7901)) (eVar 1)) (eC (.int 24697))))
  (sSeq (sIf (tB (eOp ltN (eVar 1) (eCB lenB (zA0 (eVar 0) aNil)))) (sSet 2 (eOp ixD (eVar 0) (eVar 1))) (sIf (tB (eOp gtD (eCB lenB (zA0 (eVar 0) aNil)) (eC (.int 0)))) (sSet 2 (eOp addD (eOp mulD (eOp modD (eOp ixD (eVar 0) (eOp modD (eVar 1) (eCB lenB (zA0 (eVar 0) aNil)))) (eC (.int 2147483629))) (eC (.int 31))) (eOp mulD (eC (.int 7901)) (eVar 1)))) zAd)) r)) [some (.klst (ns.map D.int)),some (.int k),none,none] S=r [some (.klst (ns.map D.int)),some (.int k),some (.int x),none] S by
  obtain⟨x,h⟩:=h;obtain⟨own,seed,s0,s9,e⟩:=zRp (S:=S) (s:=.klst (ns.map D.int)) (k:=k) (x:=x) hk;refine⟨own,seed,s0,s9,?_⟩;have:=h _ |>.trans e
  unfold zGo yAv;simp only[xv,vo,Nat.reduceAdd,xW,xt,vp,Nat.reduceSub,List.replicate,vG,ue];rw[this]
 by_cases c:(k:Int)<ns.length
 ·rw[xj c]at l1;have i1:=ix_k (S:=S) (ns:=ns) (k:=k) (by(lia));exact⟨ns[k]'(by(lia)),λr=>by simp_arith [m1,ln,l1,i1]⟩
 ·rw[xi c]at l1;by_cases c2:(0:Int)<ns.length
  ·rw[xj c2]at g1;have q1:modD S (.int k) (.int ns.length)=some (.int ((k % ns.length:Nat):Int)):=by
    rw[zC9 c2];norm_cast
   have i1:=ix_k (S:=S) (ns:=ns) (k:=k % ns.length) (vV _ (by(lia)));have q2:∀(x:Int),modD S (.int x) (.int 2147483629)=some (.int (x % 2147483629)):=λ_=>zC9 (by decide)
   have x0:=vX (ns[k % ns.length]'(vV _ (by(lia)))) (b:=2147483629) (by decide);have x9:=vY (ns[k % ns.length]'(vV _ (by(lia)))) (b:=2147483629) (by decide);have m2:=zDz (S:=S) (show sm (ns[k % ns.length]'(vV _ (by(lia))) % 2147483629)/\sm 31 from⟨zD6 x0 (by(lia)),zD6 (by decide) (by decide)⟩);exact⟨ns[k % ns.length]'(vV _ (by(lia))) % 2147483629*31+7901*k,λr=>by simp_arith [m1,ln,l1,g1,q1,i1,q2,m2]⟩
  ·rw[xi c2]at g1;exact⟨7901*k+24697,λr=>by simp_arith [m1,ln,l1,g1]⟩
end
end DS
namespace DP
open DS
open PySem (Str)
section
open Classical
theorem zA1{a b:SM}(h:a env S=.nx e S1)(h':b e S1=r):sSeq a b env S=r:=by rw[sSeq,h];exact h'
theorem zAq{a:SM}(h:a env S=.rt d S1):sSeq a b env S=.rt d S1:=by rw[sSeq,h]
theorem tru :truth S (.bl b)=some b:=rfl
theorem zA7{t:TM}{b:SM}(h:t env S=.ok false S)(h2:b env S=q):sIf t a b env S=q:=by rw[sIf,h,Rs.then_ok,xf (by decide)];exact h2
theorem zAl{t:TM}{a:SM}(h:t env S=.ok true S)(h2:a env S=q):sIf t a b env S=q:=by rw[sIf,h,Rs.then_ok,xc rfl];exact h2
theorem zPs :zDw S (.tup l)=some ⟨l,[]⟩:=rfl
theorem zPv :zDw S (.lst l)=some ⟨l,[]⟩:=rfl
theorem zGh{e:EM}(h:e env S=.ok (.tup l) S):iVal e env S=.ok ⟨l,[]⟩ S:=by rw[iVal,h,Rs.bind_ok,zPs];rfl
theorem zK4{e:EM}(h:e env S=.ok (.lst l) S):iVal e env S=.ok ⟨l,[]⟩ S:=by rw[iVal,h,Rs.bind_ok,zPv];rfl
theorem gt_int{x y:Int}:gtD S (.int x) (.int y)=some (.bl (decide (y<x))):=rfl
theorem zIn{l:List D}:lenB S [.tup l]=some (.int (l.length:Nat)):=rfl
theorem zU1{n:Nat}(h:n<=1000):zG5 [.int (n:Nat)]=some ⟨(List.range n).map fun(i:Nat)=>.int (i:Int),[]⟩:=by
 obtain⟨k,hk⟩:∃k:Int,k=(n:Int):=⟨_,rfl⟩
 rw[<- hk,zQ7 (by nofun) (by nofun),show k.toNat=n by nofun]
theorem zCe{e:EM}{n:Nat}(h:e env S=.ok (.int (n:Nat)) S')(hn:n<=1000):zBx (zA0 e aNil) env S=.ok ⟨(List.range n).map fun(i:Nat)=>.int (i:Int),[]⟩ S':=by unfold zBx zA0 aNil;rw[h,Rs.bind_ok,Rs.bind_ok,Rs.bind_ok,zU1 hn];rfl
theorem zW7 :fin [] (.bl v) S=.ok (.bl v) []:=by unfold fin;rw[xc (show keeps ([]:Store).length [] S from trivial),xc (show(D.bl v).low ([]:Store).length=true from rfl)];rfl
theorem add_str{a b:Str}(h:a.length+b.length<=1000000):(if a.length+b.length<=most then some (D.str (a++b))else none)=some (.str (a++b)):=xc (xq h (by decide))
theorem zAa{e:EM}(h:e env S=.ok d S1):zA0 e aNil env S=.ok [d] S1:=by rw[zA0,h];rfl
theorem zGd{sep:Str}{ys:List Str}(h1:sep.length<=16)(h2:(ys.map λy:Str=>y.length).sum+ys.length<=1048576):joinM S (.str sep) [.lst (ys.map D.str)]=some (.str (PySem.Txt.join sep ys),S):=by show(match strsOf (ys.map D.str)with|some ys=>if sep.length<=16/\(ys.map λy:Str=>y.length).sum+ys.length<=1048576 then some (D.str (PySem.Txt.join sep ys),S)else none|none=>none)=_;rw[zBr];show(if sep.length<=16/\(ys.map λy:Str=>y.length).sum+ys.length<=1048576 then some (D.str (PySem.Txt.join sep ys),S)else none)=_;rw[xc ⟨h1,h2⟩]
theorem zA5{g:Store->D->D->Option D}{a b:EM}(ha:a env S=.ok x S1)(hb:b env S1=.ok y S2)(hg:g S2 x y=some z):eOp g a b env S=.ok z S2:=by rw[eOp,ha,Rs.bind_ok,hb,Rs.bind_ok,hg];rfl
theorem zTk{g:Store->D->Option D}{a:EM}(ha:a env S=.ok x S1)(hg:g S1 x=some z):eUn g a env S=.ok z S1:=by rw[eUn,ha,Rs.bind_ok,hg];rfl
theorem zA4(h:env[i]?=some (some d)):eVar i env S=.ok d S:=by unfold eVar;rw[h]
theorem zAh{e:EM}(h:e env S=.ok d S1):sRet e env S=.rt d S1:=by rw[sRet,h];rfl
theorem taken{c:Nat}{many:Int}(hm:0<many)(h9:many<2147483648)(h:Feed S c):∃(r:Int) (S':Store),zA2 [.ref c,.int many] S=.ok (.int r) S'/\0<=r/\r<many/\Feed S' c/\Only c c S S':=zTp hm (zD6 (by nofun) h9) h
theorem zAk{e:EM}{a:AM}(h:e env S=.ok d S1)(h':a env S1=.ok ds S2):zA0 e a env S=.ok (d::ds) S2:=by rw[zA0,h,Rs.bind_ok,h'];rfl
theorem zCq{g:Store->D->List D->Option (D × Store)}{o:EM}{a:AM}(ho:o env S=.ok (.str z) S)(ha:a env S=.ok ds S1)(hg:g S1 (.str z) ds=some (r,S2)):eMt "str" g o a env S=.ok r S2:=by have ty:tyD S (.str z)=some "str":=rfl;rw[eMt,ho,Rs.bind_ok,xc ty,ha,Rs.bind_ok,hg];rfl
theorem zA8{F:Fn}{a:AM}(h:a env S=.ok ds S1)(h':F ds S1=.ok d S2):zA3 F a env S=.ok d S2:=by rw[zA3,h,Rs.bind_ok,h']
theorem zC8{c:Nat}{m r:Int}(h:env[i]?=some (some (.ref c)))(e:zA2 [.ref c,.int m] S=.ok (.int r) S1):zA3 zA2 (zA0 (eVar i) (zA0 (eC (.int m)) aNil)) env S=.ok (.int r) S1:=zA8 (zAk (zA4 h) (zAa rfl)) e
theorem zJf{c:TM}{b:SM}{I:Nat->Env->Store->Prop}(h0:∀env S,I 0 env S->c env S=.ok false S)(hs:∀n env S,I (n+1) env S->c env S=.ok true S/\∃env' S' m,b env S=.nx env' S'/\m<=n/\I m env' S'):∀(k n:Nat) (env:Env) (S:Store),n<=k->I n env S->∃env' S',zAr c b (k+1) env S=.nx env' S'/\I 0 env' S'
 | k,0,env,S,_,h=>⟨env,S,by unfold zAr;rw[h0 env S h,Rs.then_ok,xf (by decide)],h⟩
 | 0,n+1,env,S,hk,h=>absurd hk (by nofun)
 | k+1,n+1,env,S,hk,h=>by
  obtain⟨hc,env',S',m,hb,hm,hi⟩:=hs n env S h;obtain⟨e2,S2,e,hi2⟩:=zJf h0 hs k m env' S' (by nofun) hi;refine⟨e2,S2,?_,hi2⟩;unfold zAr;rw[hc,Rs.then_ok,xc rfl,hb];exact e
theorem zM5{c:TM}{b:SM}(I:Nat->Env->Store->Prop)(h0:∀env S,I 0 env S->c env S=.ok false S)(hs:∀n env S,I (n+1) env S->c env S=.ok true S/\∃env' S' m,b env S=.nx env' S'/\m<=n/\I m env' S')(n:Nat){env:Env}(h:I n env S):∃env' S',zC2 c b env S=.nx env' S'/\I 0 env' S':=by obtain⟨e2,S2,e,hi⟩:=zJf h0 hs n n env S (xh _) h;exact⟨e2,S2,by rw[zDg (n:=n+1) (by rw[e];intro z;cases z),e],hi⟩
structure MkF (c:Nat) (S0:Store) (n:Nat) (l:List D) (S:Store):Prop where
 feed:Feed S c
 grow:Grow c c S0 S
 at_:S[n]?=some (.lst l)
 far:S0.length<=n
section
variable {c n:Nat}{S0 S S':Store}{l:List D}
theorem MkF.take(h0:Feed S0 c)(h:MkF c S0 n l S)(d:Feed S' c)(o:Only c c S S'):MkF c S0 n l S':=by have l0:=h0.lt;have:=h.far;exact⟨d,h.grow.trans o.grow,by rw[o.at_ n (by nofun) (by nofun)];exact h.at_,h.far⟩
theorem MkF.put(h0:Feed S0 c)(h:MkF c S0 n l S)(m:List D):MkF c S0 n m (S.set n (.lst m)):=by have l0:=h0.lt;have:=h.far;exact⟨h.feed.setO (by nofun),h.grow.set h.far,by rw[vI (xC.mp h.at_).1],h.far⟩
theorem MkF.new(h0:Feed S0 c)(d:Feed S c)(g:Grow c c S0 S)(l:List D):MkF c S0 S.length l (S++[.lst l]):=⟨d.app _,g.trans (.app _),by simp,g.len⟩
end
end
open TX (ls nm)
section
open Classical
theorem zFh{x y:Int}(h:x.natAbs<=1000000)(h':y.natAbs<=1000000):mulD S (.int x) (.int y)=some (.int (x*y)):=zDz ⟨zTu (by nofun) (by nofun),zTu (by nofun) (by nofun)⟩
theorem zP0{c:Nat}(h:Feed S c):∃(x y:Int) (S':Store),zBz [.ref c] S=.ok (.tup [.int x,.int y]) S'/\(x.natAbs<=1000/\y.natAbs<=1000)/\Feed S' c/\Only c c S S':=by
 obtain⟨r,S1,e1,r0,r9,f1,o1⟩:=taken (many:=4) (by decide) (by decide) h;obtain⟨w,hw,ew⟩:∃w:Int,(w=2\/w=1000)/\atL [D.int 2,.int 2,.int 2,.int 1000] r=some (.int w):=by
  rcases(show r=0\/r=1\/r=2\/r=3 by nofun)with rfl|rfl|rfl|rfl
  ·exact⟨2,.inl rfl,rfl⟩
  ·exact⟨2,.inl rfl,rfl⟩
  ·exact⟨2,.inl rfl,rfl⟩
  ·exact⟨1000,.inr rfl,rfl⟩
 have m:∀S,mulD S (.int 2) (.int w)=some (.int (2*w)):=λS=>zFh (by decide) (by rcases hw with rfl|rfl <;> decide)
 obtain⟨x,S2,e2,x0,x9,f2,o2⟩:=taken (many:=2*w+1) (by nofun) (by nofun) f1;obtain⟨y,S3,e3,y0,y9,f3,o3⟩:=taken (many:=2*w+1) (by nofun) (by nofun) f2;obtain⟨S4,e4,f4,o4⟩:=zBb (np:=1) (nl:=2) (b:=zDd) (ds:=[.ref c]) (d:=.tup [.int (x-w),.int (y-w)]) (S':=S3) rfl (by
  unfold zDd;simp_arith [e1,ew,m,e2,e3]) h f3 ((o1.trans o2).trans o3).grow rfl
 exact⟨_,_,S4,e4,by rcases hw with rfl|rfl <;> exact⟨by nofun,by nofun⟩,f4,o4⟩
theorem zPz{c:Nat}(h:Feed S c):∃(p q u v:Int) (S':Store),zCv [.ref c] S=.ok (.tup [.int p,.int q,.int u,.int v]) S'/\((p.natAbs<=9/\q.natAbs<=9/\u.natAbs<=9/\v.natAbs<=9)/\p*v≠q*u)/\Feed S' c/\Only c c S S':=by
 obtain⟨ys,S1,e1,l1,b1,f1,o1⟩:=zIt (h:=fun(i:Nat)=>D.int (i:Int)) (k:=D.int) (own:=1) (ix:=[0]) (i:=zBx (zA0 (eC (.int 4)) aNil)) (g:=gName 0) (e:=eOp subD (zA3 zA2 (zA0 (eVar 1) (zA0 (eC (.int 19)) aNil))) (eC (.int 9))) (S:=S) (S0:=S) (env:=[some (.ref c),none,none,none,none]) (xs:=List.range 4) (gd:=[]) (λenv=>∃x,env=[x,some (.ref c)]) (λS'=>Feed S' c/\Only c c S S') (λy:Int=>y.natAbs<=9) (zCe (n:=4) rfl (by decide)) (λ_ _=>zB1) ⟨none,rfl⟩ ⟨h,.refl⟩ (by decide) (λi _ env S' he hj=>by
  obtain⟨x,rfl⟩:=he;obtain⟨a,T1,d1,a0,a9,g1,p1⟩:=taken (many:=19) (by decide) (by decide) hj.1;exact⟨[some (.int (i:Int)),some (.ref c)],a-9,T1,rfl,⟨_,rfl⟩,by simp_arith [d1],by nofun,g1,hj.2.trans p1⟩)
 rw[vj]at l1
 match ys,l1,b1 with
 | [p,q,u,v],_,b1=>
 have hp:=b1 p (.head _);have hq:=b1 q (.tail _ (.head _));have hu:=b1 u (.tail _ (.tail _ (.head _)));have hv:=b1 v (.tail _ (.tail _ (.tail _ (.head _))));have m1:mulD S1 (.int p) (.int v)=some (.int (p*v)):=zFh (by nofun) (by nofun);have m2:mulD S1 (.int q) (.int u)=some (.int (q*u)):=zFh (by nofun) (by nofun);have un:sUnp (gTup [gName 1,gName 2,gName 3,gName 4]) (zAv 1 [0] (zBx (zA0 (eC (.int 4)) aNil)) (gName 0) tYes (eOp subD (zA3 zA2 (zA0 (eVar 1) (zA0 (eC (.int 19)) aNil))) (eC (.int 9)))) [some (.ref c),none,none,none,none] S=.nx [some (.ref c),some (.int p),some (.int q),some (.int u),some (.int v)] S1:=by rw[sUnp,e1];rfl
 by_cases z:p*v=q*u
 ·obtain⟨S4,e4,f4,o4⟩:=zBb (np:=1) (nl:=5) (b:=zCy) (ds:=[.ref c]) (d:=.tup [.int (if(if p<0 then -p else p) > 1 then(if p<0 then -p else p)else 1),.int 0,.int u,.int (if(if v<0 then -v else v) > 1 then(if v<0 then -v else v)else 1)]) (S':=S1) rfl (by
   refine zA1 un ?_;have t:tB (eOp eqI (eOp mulD (eVar 1) (eVar 4)) (eOp mulD (eVar 2) (eVar 3))) [some (.ref c),some (.int p),some (.int q),some (.int u),some (.int v)] S1=.ok true S1:=by simp_arith [m1,m2,zCa,xj z]
   exact zAq (zAl t rfl)) h f1 o1.grow rfl
  obtain⟨a,ha,a1,a9⟩:∃a,(if(if p<0 then -p else p) > 1 then(if p<0 then -p else p)else 1)=a/\1<=a/\a<=9:=⟨_,rfl,by split <;> split <;> lia,by split <;> split <;> lia⟩
  obtain⟨b,hb,c1,c9⟩:∃a,(if(if v<0 then -v else v) > 1 then(if v<0 then -v else v)else 1)=a/\1<=a/\a<=9:=⟨_,rfl,by split <;> split <;> lia,by split <;> split <;> lia⟩
  rw[ha,hb]at e4;refine⟨_,_,_,_,S4,e4,⟨⟨by nofun,by decide,hu,by nofun⟩,?_⟩,f4,o4⟩;have:=Int.mul_pos (show 0<a by nofun) (show 0<b by nofun);lia
 ·obtain⟨S4,e4,f4,o4⟩:=zBb (np:=1) (nl:=5) (b:=zCy) (ds:=[.ref c]) (d:=.tup [.int p,.int q,.int u,.int v]) (S':=S1) rfl (by
   refine zA1 un ?_;have t:tB (eOp eqI (eOp mulD (eVar 1) (eVar 4)) (eOp mulD (eVar 2) (eVar 3))) [some (.ref c),some (.int p),some (.int q),some (.int u),some (.int v)] S1=.ok false S1:=by simp_arith [m1,m2,zCa,xi z]
   exact zA1 (zA7 t rfl) rfl) h f1 o1.grow rfl
  exact⟨_,_,_,_,S4,e4,⟨⟨hp,hq,hu,hv⟩,z⟩,f4,o4⟩
noncomputable abbrev tx (s:String):D:=.str (PySem.Str.ofString s)
noncomputable abbrev so (s:String):Str:=PySem.Str.ofString s
noncomputable abbrev w5:List Str:=[so "all",so "any",so "at",so "by",so "then"]
structure It where
 d:D
 pc:List (List Nat)
 sz:Nat
noncomputable def jb:List (List (List Nat))->List (List Nat)
 | []=>[]
 | [p]=>p
 | p::q::r=>p++([32]::jb (q::r))
def Bx(x:Int):Prop:=x.natAbs<=9999
noncomputable def w2 (x y:Int):List Nat:=nm x++44::nm y
noncomputable def w4 (a b u v:Int):List Nat:=nm a++44::(nm b++44::(nm u++44::nm v))
structure Nmo (s:Str):Prop where
 pos:1<=s.length
 len:s.length<=8
 let_:∀c∈ls s,97<=c/\c<=122
 no5:s ∉ w5
noncomputable abbrev node (hp:List (List Nat)) (ps:List It):List (List Nat):=hp++(jb (ps.map It.pc)++[[41]])
def Head(d:D)(pc:List (List Nat))(ps:List It):Prop:=
 (∃x y:Int,Bx x/\Bx y/\d=.tup [tx "cell",.int x,.int y]/\pc=[w2 x y]/\ps=[]) \/
 (∃s,Nmo s/\d=.tup [tx "name",.str s]/\pc=[ls s]/\ps=[]) \/
 (∃(x y:Int) (r:It),Bx x/\Bx y/\d=.tup [tx "at",.int x,.int y,r.d]/\pc=node [[97,116],[40],w2 x y,[32]] ps/\ps=[r]) \/
 (∃(a b u v:Int) (r:It),(Bx a/\Bx b/\Bx u/\Bx v)/\a*v≠b*u/\d=.tup [tx "by",.tup [.int a,.int b,.int u,.int v],r.d]/\pc=node [[98,121],[40],w4 a b u v,[32]] ps/\ps=[r]) \/
 (∃q r:It,d=.tup [tx "then",q.d,r.d]/\pc=node [[116,104,101,110],[40]] ps/\ps=[q,r]) \/
 (∃w:String,(w="all"\/w="any")/\d=.tup [tx w,.tup (ps.map It.d)]/\pc=node [ls (so w),[40]] ps/\ps≠[]/\ps.length<=60) \/
 (∃k:Int,(1<=k/\k<=ps.length)/\d=.tup [tx "least",.int k,.tup (ps.map It.d)]/\pc=node [nm k,[40]] ps/\ps≠[]/\ps.length<=60)
def Ru:Nat->It->Prop
 | 0,_=>False
 | n+1,t=>∃ps:List It,Head t.d t.pc ps/\(∀p∈ps,Ru n p)/\t.sz=1+(ps.map It.sz).sum
theorem Ru.up:∀{n:Nat}{t:It},Ru n t->Ru (n+1) t
 | n+1,t,⟨ps,hd,hp,hs⟩=>⟨ps,hd,λp hp'=>(hp p hp').up,hs⟩
theorem zBi{k:Nat}:∀{l:List D},(∀d∈l,d.low k=true)->lowL k l=true
 | [],_=>rfl
 | d::l,h=>by
  show(d.low k && lowL k l)=true;rw[h d (.head _),zBi λx hx=>h x (.tail _ hx)];rfl
theorem Head.all{P:D->Prop}{L:List D->Prop}(h0:L [])(hc:∀d l,P d->L l->L (d::l))(ht:∀l,L l->P (.tup l))(hi:∀i,P (.int i))(hs:∀s,P (.str s)){d:D}{pc:List (List Nat)}(h:Head d pc ps)(k:∀p∈ps,P p.d):P d:=by
 have al:∀l:List It,(∀p∈l,P p.d)->L (l.map It.d):=λl=>by
  induction l with
  | nil=>exact λ_=>h0
  | cons a l ih=>exact λh=>hc _ _ (h a (.head _)) (ih λx hx=>h x (.tail _ hx))
 rcases h with⟨x,y,_,_,rfl,_⟩|⟨s,_,rfl,_⟩|⟨x,y,r,_,_,rfl,_,rfl⟩|⟨a,b,u,v,r,_,_,rfl,_,rfl⟩|⟨q,r,rfl,_,rfl⟩|⟨w,_,rfl,_,_⟩|⟨j,_,rfl,_,_⟩
 ·exact ht _ (hc _ _ (hs _) (hc _ _ (hi _) (hc _ _ (hi _) h0)))
 ·exact ht _ (hc _ _ (hs _) (hc _ _ (hs _) h0))
 ·exact ht _ (hc _ _ (hs _) (hc _ _ (hi _) (hc _ _ (hi _) (al _ k))))
 ·exact ht _ (hc _ _ (hs _) (hc _ _ (ht _ (hc _ _ (hi _) (hc _ _ (hi _) (hc _ _ (hi _) (hc _ _ (hi _) h0))))) (al _ k)))
 ·exact ht _ (hc _ _ (hs _) (al _ k))
 ·exact ht _ (hc _ _ (hs _) (hc _ _ (ht _ (al _ k)) h0))
 ·exact ht _ (hc _ _ (hs _) (hc _ _ (hi _) (hc _ _ (ht _ (al _ k)) h0)))
theorem Ru.low{k:Nat}:∀{n:Nat}{t:It},Ru n t->t.d.low k=true
 | n+1,t,h=>by
  obtain⟨ps,hd,hp,_⟩:=h;refine hd.all (P:=λd=>d.low k=true) (L:=λl=>lowL k l=true) rfl (λd l a b=>?_) (λl a=>a) (λ_=>rfl) (λ_=>rfl) λp hp'=>(hp p hp').low
  show(d.low k && lowL k l)=true;rw[a,b];rfl
def RS(r:Fn)(c:Nat)(P:List Str)(n:Nat):Prop:=∀(deep room:Nat) (th:Int) (S:Store),1<=deep->deep<=n->1<=room->room<=60->Feed S c->
 ∃(t:It) (S':Store),r [.ref c,.int (room:Nat),.int (deep:Nat),.int th,.lst (P.map D.str)] S=.ok t.d S'/\Ru deep t/\t.sz<=room/\Feed S' c/\Only c c S S'
theorem min2{x y:Int}:min2B S [.int x,.int y]=some (.int (if y<x then y else x)):=rfl
theorem yAx{S:Store}{n:Nat}{l:List D}(h:S[n]?=some (.lst l))(hl:l.length<1000):zAi S (.ref n) [d]=some (.non,S.set n (.lst (l++[d]))):=yCs h hl
theorem zTl{n:Nat}(h:S[n]?=some (.lst l)):zCn S [.ref n]=some (.tup l):=by have:look S (.ref n)=some (.lst l):=h;simp only[zCn,litems,this,uy]
noncomputable abbrev paB (r:Fn):SM:=sSeq (sSet 9 (eOp addD (eC (.int 1)) (zA3 zA2 (zA0 (eVar 0) (zA0 (eOp subD (eVar 7) (eOp subD (eOp subD (eVar 5) (eC (.int 1))) (eVar 8))) aNil)))))
  (sSeq (sSet 7 (eOp subD (eVar 7) (eVar 9)))
  (zAp (eMt "list" zAi (eVar 6) (zA0 (zA3 r (zA0 (eVar 0) (zA0 (eVar 9) (zA0 (eVar 2) (zA0 (eVar 3) (zA0 (eVar 4) aNil)))))) aNil))))
theorem zQy{n:Nat}(R:RS r c P n){deep room:Nat}{th:Int}(d1:1<=deep)(d2:deep<=n)(r1:1<=room)(r2:room<=60)(h:Feed S c):
  ∃(ps:List It) (S':Store),zC6 r [.ref c,.int (room:Nat),.int (deep:Nat),.int th,.lst (P.map D.str)] S=.ok (.tup (ps.map It.d)) S'/\ps≠[]/\(∀p∈ps,Ru deep p)/\(ps.map It.sz).sum<=room/\Feed S' c/\Only c c S S':=by
 obtain⟨lim,l0,l9,el⟩:∃lim:Int,1<=lim/\lim<=room/\(if((room:Nat):Int)<9 then((room:Nat):Int)else 9)=lim:=⟨_,by split <;> lia,by split <;> lia,rfl⟩
 obtain⟨a,S1,e1,a0,a9,f1,o1⟩:=taken (many:=lim) (by nofun) (by nofun) h;obtain⟨m,hm⟩:∃m:Nat,(m:Int)=1+a:=⟨(1+a).toNat,by nofun⟩
 have m9:m<=room:=by nofun
 obtain⟨v,hv⟩:∃v:D,v=.lst (P.map D.str):=⟨_,rfl⟩
 have R':=R;unfold RS at R;rw[<- hv]at R ⊢;have k0:MkF c S S1.length (([]:List It).map It.d) (S1++[.lst []]):=MkF.new h f1 o1.grow [];obtain⟨env',S3,e3,ps,left,q8,q9,rfl,mk,pl,lm,sm,ru⟩:=zK7 (h:=λi:Nat=>D.int (i:Int)) (gd:=[]) (g:=gName 8) (b:=paB r) (ys:=List.range m)
  (λZ env T=>∃(ps:List It) (left:Int) (q8 q9:Option D),env=[some (.ref c),some (.int (room:Nat)),some (.int (deep:Nat)),some (.int th),some v,some (.int (m:Nat)),some (.ref S1.length),some (.int left),q8,q9]/\MkF c S S1.length (ps.map It.d) T/\ps.length=Z.length/\(m:Int)-Z.length<=left/\((ps.map It.sz).sum:Int)+left<=room/\∀p∈ps,Ru deep p)
  (λ_ _ _ _=>zB1) (λZ i Y eq env T hh=>by
   obtain⟨ps,left,q8,q9,rfl,mk,pl,lm,sm,ru⟩:=hh;have hi:i=Z.length/\Z.length<m:=by have e:=congrArg (·[Z.length]?) eq;have l:=congrArg List.length eq;rw[vj,xk,xv]at l;simp only[xM (xh _),vH,uQ]at e;rw[uX (by nofun)]at e;exact⟨(xB e).symm,by nofun⟩
   obtain⟨rfl,zm⟩:=hi;obtain⟨b,T1,e1,b0,b9,g1,p1⟩:=taken (many:=left-((m:Int)-1-(Z.length:Nat))) (by nofun) (by nofun) mk.feed;have mk1:=mk.take h g1 p1;obtain⟨z,hz⟩:∃z:Nat,(z:Int)=1+b:=⟨(1+b).toNat,by nofun⟩
   obtain⟨t,T2,e2,rt,st,g2,p2⟩:=R deep z th T1 d1 d2 (by nofun) (by nofun) g1;have mk2:=mk1.take h g2 p2;have ap:=yAx (d:=t.d) mk2.at_ (by rw[xp,pl];lia);have mk3:=mk2.put h (ps.map It.d++[t.d]);rw[hz]at e2;refine⟨_,[some (.ref c),some (.int (room:Nat)),some (.int (deep:Nat)),some (.int th),some v,some (.int (m:Nat)),some (.ref S1.length),some (.int (left-(1+b))),some (.int (Z.length:Nat)),some (.int (1+b))],_,rfl,?_,ps++[t],left-(1+b),_,_,rfl,by rw[xP];exact mk3,by simp[pl],by rw[xk,xG];lia,?_,?_⟩
   ·simp_arith [e1,eMt,ty_D mk1.at_,e2,ap]
   ·rw[xP,List.sum_append,List.map_singleton,List.sum_singleton];lia
   ·intro p hp;rcases xH.mp hp with hp|hp
    ·exact ru p hp
    ·rw[xx.mp hp];exact rt) (List.range m) [] [some (.ref c),some (.int (room:Nat)),some (.int (deep:Nat)),some (.int th),some v,some (.int (m:Nat)),some (.ref S1.length),some (.int (room:Nat)),none,none] (S1++[.lst []]) rfl ⟨[],room,none,none,rfl,k0,rfl,by simpa using m9,by simp,(λp h=>nomatch h)⟩
 rw[vj]at pl;have lo:(D.tup (ps.map It.d)).low S.length=true:=zBi λd hd=>by
  obtain⟨p,hp,rfl⟩:=xE.mp hd;exact(ru p hp).low
 obtain⟨S4,e4,f4,o4⟩:=zBb (np:=5) (nl:=10) (b:=zE1 r) (ds:=[.ref c,.int (room:Nat),.int (deep:Nat),.int th,v]) (d:=.tup (ps.map It.d)) (S':=S3) rfl (by
  refine zA1 (e:=[some (.ref c),some (.int (room:Nat)),some (.int (deep:Nat)),some (.int th),some v,some (.int (m:Nat)),none,none,none,none]) (S1:=S1) ?_ (zA1 (e:=[some (.ref c),some (.int (room:Nat)),some (.int (deep:Nat)),some (.int th),some v,some (.int (m:Nat)),some (.ref S1.length),none,none,none]) (S1:=S1++[.lst []]) rfl (zA1 (e:=[some (.ref c),some (.int (room:Nat)),some (.int (deep:Nat)),some (.int th),some v,some (.int (m:Nat)),some (.ref S1.length),some (.int (room:Nat)),none,none]) (S1:=S1++[.lst []]) rfl (zA1 (e:=[some (.ref c),some (.int (room:Nat)),some (.int (deep:Nat)),some (.int th),some v,some (.int (m:Nat)),some (.ref S1.length),some (.int left),q8,q9]) (S1:=S3) ?_ ?_)))
  ·rw[hm];simp_arith [min2,el,e1]
  ·rw[sFor,zCe (n:=m) rfl (by nofun),Rs.then_ok];exact e3
  ·exact zAh (by rw[eCB,zAa (zA4 rfl),Rs.bind_ok,zTl mk.at_];rfl)) h mk.feed mk.grow lo
 refine⟨ps,S4,e4,λz=>?_,ru,by rw[vj]at lm;lia,f4,o4⟩;rw[z]at pl;have:m=0:=pl.symm;lia
theorem zO0{t:TM}{b:SM}(h:t env S=.ok false S1)(h2:b env S1=q):sIf t a b env S=q:=by rw[sIf,h,Rs.then_ok,xf (by decide)];exact h2
theorem zNz{t:TM}{a:SM}(h:t env S=.ok true S1)(h2:a env S1=q):sIf t a b env S=q:=by rw[sIf,h,Rs.then_ok,xc rfl];exact h2
theorem zT5{l:List Str}{r:Int}(r0:0<=r)(r9:r<l.length):∃y,y∈l/\atL (l.map D.str) r=some (.str y):=by
 have k:r.toNat<l.length:=by nofun
 refine⟨l[r.toNat],List.getElem_mem k,?_⟩;unfold atL ixN;rw[xc r0,xc (by rw[xp];exact r9)];show(l.map D.str)[r.toNat]?=_;rw[xO,xo k];rfl
theorem zXi{a b:TM}[Decidable p](h:a env S=.ok (decide p) S1)(h1:p->q=.ok true S1)(h2:¬ p->b env S1=q):tOr a b env S=q:=by
 rw[tOr,h,Rs.bind_ok];by_cases c:p
 ·rw[xj c,xc rfl,h1 c]
 ·rw[xi c,xf (by decide),h2 c]
theorem zGy{a b:TM}[Decidable p](h:a env S=.ok (decide p) S1)(h1:¬ p->q=.ok false S1)(h2:p->b env S1=q):tAnd a b env S=q:=by
 rw[tAnd,h,Rs.bind_ok];by_cases c:p
 ·rw[xj c,xc rfl,h2 c]
 ·rw[xi c,xf (by decide),h1 c]
theorem zAt{m:EM}(h:m env S=.ok (.bl b) S1):tB m env S=.ok b S1:=by rw[tB,h];rfl
noncomputable abbrev lfT:TM:=tAnd (tB (eOp gtD (eCB lenB (zA0 (eVar 4) aNil)) (eC (.int 0)))) (tB (eOp gtD (zA3 zA2 (zA0 (eVar 0) (zA0 (eC (.int 3)) aNil))) (eC (.int 0))))
noncomputable abbrev lfN:EM:=eTup (zA0 (eC (.str (PySem.Str.ofString "name"))) (zA0 (eOp ixD (eVar 4) (zA3 zA2 (zA0 (eVar 0) (zA0 (eCB lenB (zA0 (eVar 4) aNil)) aNil)))) aNil))
noncomputable abbrev lfC:EM:=eOp addD (eTup (zA0 (eC (.str (PySem.Str.ofString "cell"))) aNil)) (zA3 zBz (zA0 (eVar 0) aNil))
theorem zSo{l:List Str}(h:env[4]?=some (some (.lst (l.map D.str)))):eCB lenB (zA0 (eVar 4) aNil) env T=.ok (.int (l.length:Nat)) T:=by
 have ln:lenB T [.lst (l.map D.str)]=some (.int (l.length:Nat)):=by show some (D.int ((l.map D.str).length:Int))=_;rw[xp]
 rw[eCB,zAa (zA4 h),Rs.bind_ok,ln];rfl
theorem zVo{d:Nat}{P:List Str}(hP:P.length<=1000)(hN:∀s∈P,Nmo s)(h0:env[0]?=some (some (.ref c)))(h4:env[4]?=some (some (.lst (P.map D.str))))(h:Feed S c):
  ∃(t:It) (S':Store),sSeq (sIf lfT (sRet lfN) zAd) (sRet lfC) env S=.rt t.d S'/\Ru (d+1) t/\t.sz<=1/\Feed S' c/\Only c c S S':=by
 have gz:eOp gtD (eCB lenB (zA0 (eVar 4) aNil)) (eC (.int 0)) env S=.ok (.bl (decide (0<(P.length:Int)))) S:=zA5 (zSo h4) rfl rfl;have cl:∀T,Feed T c->Only c c S T->sIf lfT (sRet lfN) zAd env S=.nx env T->∃(t:It) (S':Store),sSeq (sIf lfT (sRet lfN) zAd) (sRet lfC) env S=.rt t.d S'/\Ru (d+1) t/\t.sz<=1/\Feed S' c/\Only c c S S':=λT ft ot e=>by
  obtain⟨x,y,T1,e',bb,g,p⟩:=zP0 ft;refine⟨⟨.tup [tx "cell",.int x,.int y],[w2 x y],1⟩,T1,zA1 e (zAh (zA5 (x:=.tup [tx "cell"]) (y:=.tup [.int x,.int y]) rfl (zA8 (zAa (zA4 h0)) e') ?_)),⟨[],.inl ⟨x,y,by unfold Bx;lia,by unfold Bx;lia,rfl,rfl,rfl⟩,(λp h=>nomatch h),rfl⟩,xh _,g,ot.trans p⟩;show(if [tx "cell"]≠[]/\[tx "cell"].length+[D.int x,.int y].length<=most then some (D.tup ([tx "cell"]++[.int x,.int y]))else none)=_;rw[xc ⟨by simp,(by show 1+2<=most;decide)⟩];rfl
 by_cases pe:0<(P.length:Int)
 ·rw[xj pe]at gz;obtain⟨a,S2,e2,a0,a9,f2,o2⟩:=taken (many:=3) (by decide) (by decide) h;have t:lfT env S=.ok (decide (0<a)) S2:=zGy (p:=True) (by rw[zAt gz];rfl) (λz=>absurd trivial z) λ_=>zAt (zA5 (zC8 h0 e2) rfl rfl)
  by_cases a1:0<a
  ·obtain⟨i,S3,e3,i0,i9,f3,o3⟩:=taken (many:=(P.length:Int)) pe (by have:=hP;lia) f2;obtain⟨y,ym,ey⟩:=zT5 i0 i9;rw[xj a1]at t;refine⟨⟨.tup [tx "name",.str y],[TX.ls y],1⟩,S3,zAq (zNz t ?_),⟨[],.inr (.inl ⟨y,hN y ym,rfl,rfl,rfl⟩),(λp h=>nomatch h),rfl⟩,xh _,f3,o2.trans o3⟩;have tk:zA3 zA2 (zA0 (eVar 0) (zA0 (eCB lenB (zA0 (eVar 4) aNil)) aNil)) env S2=.ok (.int i) S3:=zA8 (zAk (zA4 h0) (zAa (zSo h4))) e3;refine zAh ?_;show eTup _ env S2=_;rw[eTup,zAk (d:=.str (PySem.Str.ofString "name")) rfl (zAa (zA5 (zA4 h4) tk (show ixD S3 (.lst (P.map D.str)) (.int i)=some (.str y)from ey)))];rfl
  ·rw[xi a1]at t;exact cl S2 f2 o2 (zO0 t rfl)
 ·rw[xi pe]at gz;have t:lfT env S=.ok false S:=zGy (p:=False) (by rw[zAt gz];rfl) (λ_=>rfl) λz=>z.elim
  exact cl S h .refl (zO0 t rfl)
noncomputable abbrev ruT:TM:=tOr (tB (eOp ltN (eVar 1) (eC (.int 2)))) (tOr (tB (eOp ltN (eVar 2) (eC (.int 2)))) (tB (eOp eqI (eVar 5) (eC (.int 0)))))
theorem Ru.pos:∀{d:Nat}{a:It},Ru d a->1<=a.sz
 | _+1,_,⟨_,_,_,e⟩=>by rw[e];lia
theorem zMn{c:Nat}{P:List Str}(hP:P.length<=1000)(hN:∀s∈P,Nmo s):∀n:Nat,RS (zB6 n) c P n
 | 0=>λdeep room th S d1 d2=>by exfalso;lia
 | n+1=>λdeep room th S d1 d2 r1 r2 h=>by
  have ih:RS (zB6 n) c P n:=zMn hP hN n;obtain⟨r,hr⟩:∃r,r=zB6 n:=⟨_,rfl⟩
  rw[<- hr]at ih;show ∃(t:It) (S':Store),zAg 5 10 (zC1 (zB6 n)) _ S=_/\_
  rw[<- hr];obtain⟨v,hv⟩:∃v:D,v=.lst (P.map D.str):=⟨_,rfl⟩
  have ih':=ih;unfold RS at ih;rw[<- hv]at ih ⊢;obtain⟨d,rfl⟩:∃d:Nat,deep=d+1:=⟨deep-1,by nofun⟩
  obtain⟨ri,hri⟩:∃x:Int,x=(room:Nat):=⟨_,rfl⟩
  obtain⟨di,hdi⟩:∃x:Int,x=((d+1:Nat):Int):=⟨_,rfl⟩
  rw[<- hri,<- hdi];obtain⟨w,S1,e1,w0,w9,f1,o1⟩:=taken (many:=9) (by decide) (by decide) h;have fin:∀(t:It) (S':Store),zC1 r [some (.ref c),some (.int ri),some (.int di),some (.int th),some v,none,none,none,none,none] S=.rt t.d S'->Ru (d+1) t->t.sz<=room->Feed S' c->Only c c S1 S'->∃(t:It) (S':Store),zAg 5 10 (zC1 r) [.ref c,.int ri,.int di,.int th,v] S=.ok t.d S'/\Ru (d+1) t/\t.sz<=room/\Feed S' c/\Only c c S S':=λt S' e ru sz f o=>by
   obtain⟨S4,e4,f4,o4⟩:=zBb (np:=5) (nl:=10) (b:=zC1 r) (ds:=[.ref c,.int ri,.int di,.int th,v]) (d:=t.d) (S':=S') rfl e h f (o1.trans o).grow ru.low;exact⟨t,S4,e4,ru,sz,f4,o4⟩
  have st1:sSet 5 (zA3 zA2 (zA0 (eVar 0) (zA0 (eC (.int 9)) aNil))) [some (.ref c),some (.int ri),some (.int di),some (.int th),some v,none,none,none,none,none] S=.nx [some (.ref c),some (.int ri),some (.int di),some (.int th),some v,some (.int w),none,none,none,none] S1:=by rw[sSet,zC8 rfl e1];rfl
  have lf:ruT [some (.ref c),some (.int ri),some (.int di),some (.int th),some v,some (.int w),none,none,none,none] S1=.ok (decide (ri<2\/di<2\/w=0)) S1:=by
   refine zXi (p:=ri<2) (zAt (zA5 (zA4 rfl) rfl rfl)) (λc=>by rw[xj (.inl c)]) λc1=>?_
   refine zXi (p:=di<2) (zAt (zA5 (zA4 rfl) rfl rfl)) (λc=>by rw[xj (.inr (.inl c))]) λc2=>?_
   refine(zAt (zA5 (zA4 rfl) rfl (zCa (b:=0)))).trans ?_;rw[show decide (w=0)=decide (ri<2\/di<2\/w=0)from vc.mpr ⟨λe=>.inr (.inr e),λe=>(e.resolve_left c1).resolve_left c2⟩]
  by_cases lf':ri<2\/di<2\/w=0
  ·rw[xj lf']at lf;obtain⟨t,S2,e,ru,sz,f,o⟩:=zVo (d:=d) (env:=[some (.ref c),some (.int ri),some (.int di),some (.int th),some v,some (.int w),none,none,none,none]) hP hN rfl (by rw[hv];rfl) f1;exact fin t S2 (zA1 st1 (zAq (zAl lf e))) ru (xq sz r1) f o
  rw[xi lf']at lf;have q2:((d:Nat):Int)=di-1:=by nofun
  have dn:1<=d/\d<=n:=by nofun
  have rcc:∀(m:Nat) (t:Int) (S:Store),1<=m->m<=60->Feed S c->∃(x:It) (S':Store),r [.ref c,.int (m:Nat),.int (di-1),.int t,v] S=.ok x.d S'/\Ru d x/\x.sz<=m/\Feed S' c/\Only c c S S':=λm t S h1 h2 f=>by
   obtain⟨x,S',e,k⟩:=ih d m t S dn.1 dn.2 h1 h2 f;rw[q2]at e;exact⟨x,S',e,k⟩
  have q1:((room-1:Nat):Int)=ri-1:=by nofun
  have one:∀{t:It}{hd:D}{pc:List (List Nat)},Ru d t->Head hd pc [t]->Ru (d+1) ⟨hd,pc,1+t.sz⟩:=λ{t hd pc} ru h=>⟨[t],h,(λp hp=>by rw[xx.mp hp];exact ru),by simp⟩
  by_cases w3:w<3
  ·have t3:tB (eOp ltN (eVar 5) (eC (.int 3))) [some (.ref c),some (.int ri),some (.int di),some (.int th),some v,some (.int w),none,none,none,none] S1=.ok true S1:=by rw[zAt (zA5 (zA4 rfl) rfl rfl),xj w3]
   obtain⟨x,y,S2,e2,bb,f2,o2⟩:=zP0 f1;obtain⟨t,S3,e3,ru,sz,f3,o3⟩:=rcc (room-1) th S2 (by nofun) (by nofun) f2;rw[q1]at e3;refine fin ⟨.tup [tx "at",.int x,.int y,t.d],_,1+t.sz⟩ S3 (zA1 st1 (zA1 (zA7 lf rfl) (zAq (zAl t3 (zA1 (e:=[some (.ref c),some (.int ri),some (.int di),some (.int th),some v,some (.int w),some (.tup [.int x,.int y]),none,none,none]) (S1:=S2) ?_ ?_))))) (one ru (.inr (.inr (.inl ⟨x,y,t,by unfold Bx;lia,by unfold Bx;lia,rfl,rfl,rfl⟩)))) (by show 1+t.sz<=room;lia) f3 (o2.trans o3)
   ·rw[sSet,zA8 (zAa (zA4 rfl)) e2];rfl
   ·simp_arith [e3]
  have n3:tB (eOp ltN (eVar 5) (eC (.int 3))) [some (.ref c),some (.int ri),some (.int di),some (.int th),some v,some (.int w),none,none,none,none] S1=.ok false S1:=by rw[zAt (zA5 (zA4 rfl) rfl rfl),xi w3]
  by_cases w4:w=3
  ·have t4:tB (eOp eqI (eVar 5) (eC (.int 3))) [some (.ref c),some (.int ri),some (.int di),some (.int th),some v,some (.int w),none,none,none,none] S1=.ok true S1:=by rw[zAt (zA5 (zA4 rfl) rfl zCa),xj w4]
   obtain⟨a,b,u,z,S2,e2,bb,f2,o2⟩:=zPz f1;obtain⟨t,S3,e3,ru,sz,f3,o3⟩:=rcc (room-1) th S2 (by nofun) (by nofun) f2;rw[q1]at e3;refine fin ⟨.tup [tx "by",.tup [.int a,.int b,.int u,.int z],t.d],_,1+t.sz⟩ S3 (zA1 st1 (zA1 (zA7 lf rfl) (zA1 (zA7 n3 rfl) (zAq (zAl t4 ?_))))) (one ru (.inr (.inr (.inr (.inl ⟨a,b,u,z,t,⟨by unfold Bx;lia,by unfold Bx;lia,by unfold Bx;lia,by unfold Bx;lia⟩,bb.2,rfl,rfl,rfl⟩))))) (by show 1+t.sz<=room;lia) f3 (o2.trans o3);simp_arith [e2,e3]
  have n4:tB (eOp eqI (eVar 5) (eC (.int 3))) [some (.ref c),some (.int ri),some (.int di),some (.int th),some v,some (.int w),none,none,none,none] S1=.ok false S1:=by rw[zAt (zA5 (zA4 rfl) rfl zCa),xi w4]
  have t5:tAnd (tB (eOp eqI (eVar 5) (eC (.int 4)))) (tAnd (tB (eOp gtD (eVar 3) (eC (.int 0)))) (tB (eOp gtD (eVar 1) (eC (.int 2))))) [some (.ref c),some (.int ri),some (.int di),some (.int th),some v,some (.int w),none,none,none,none] S1=.ok (decide (w=4/\0<th/\2<ri)) S1:=by
   refine zGy (p:=w=4) (zAt (zA5 (zA4 rfl) rfl zCa)) (λc=>by rw[xi λz=>c z.1]) λc1=>?_
   refine zGy (p:=0<th) (zAt (zA5 (zA4 rfl) rfl rfl)) (λc=>by rw[xi λz=>c z.2.1]) λc2=>?_
   refine(zAt (zA5 (zA4 rfl) rfl (gt_int (y:=2)))).trans ?_;rw[show decide (2<ri)=decide (w=4/\0<th/\2<ri)from vc.mpr ⟨λe=>⟨c1,c2,e⟩,λe=>e.2.2⟩]
  by_cases w5:w=4/\0<th/\2<ri
  ·rw[xj w5]at t5;obtain⟨a,S2,e2,a0,a9,f2,o2⟩:=taken (many:=ri-2) (by nofun) (by nofun) f1;obtain⟨m,hm⟩:∃m:Nat,(m:Int)=1+a:=⟨(1+a).toNat,by nofun⟩
   obtain⟨t,S3,e3,ru,sz,f3,o3⟩:=rcc m (th-1) S2 (by nofun) (by nofun) f2;obtain⟨t',S4,e4,ru',sz',f4,o4⟩:=rcc (room-1-m) (th-1) S3 (by nofun) (by nofun) f3;rw[show((room-1-m:Nat):Int)=ri-1-(1+a) by nofun]at e4;rw[hm]at e3;refine fin ⟨.tup [tx "then",t.d,t'.d],_,1+(t.sz+t'.sz)⟩ S4 (zA1 st1 (zA1 (zA7 lf rfl) (zA1 (zA7 n3 rfl) (zA1 (zA7 n4 rfl) (zAq (zAl t5 ?_)))))) ⟨[t,t'],.inr (.inr (.inr (.inr (.inl ⟨_,_,rfl,rfl,rfl⟩)))),(λp hp=>?_),by simp⟩ (by show 1+(t.sz+t'.sz)<=room;lia) f4 ((o2.trans o3).trans o4)
   ·simp_arith [e2,e3,e4]
   ·rcases xr.mp hp with rfl|hp
    ·exact ru
    ·rw[xx.mp hp];exact ru'
  rw[xi w5]at t5;obtain⟨ps,S2,e2,pn,ru,sm,f2,o2⟩:=zQy ih' (deep:=d) (room:=room-1) (th:=th) dn.1 dn.2 (by nofun) (by nofun) f1;rw[<- hv,q1,q2]at e2;have st9:sSet 9 (zA3 (zC6 r) (zA0 (eVar 0) (zA0 (eOp subD (eVar 1) (eC (.int 1))) (zA0 (eOp subD (eVar 2) (eC (.int 1))) (zA0 (eVar 3) (zA0 (eVar 4) aNil)))))) [some (.ref c),some (.int ri),some (.int di),some (.int th),some v,some (.int w),none,none,none,none] S1=.nx [some (.ref c),some (.int ri),some (.int di),some (.int th),some v,some (.int w),none,none,none,some (.tup (ps.map It.d))] S2:=by simp_arith [e2]
  have pl:ps.length<=60:=by
   have:∀l:List It,(∀p∈l,Ru d p)->l.length<=(l.map It.sz).sum:=λl=>by
    induction l with
    | nil=>exact λ_=>xh _
    | cons a l ih=>
     intro hl;have h1:=ih λp hp=>hl p (.tail _ hp)
     have h2:1<=a.sz:=Ru.pos (hl a (.head _));rw[xt,xQ,xv];lia
   have:=this ps ru;lia
  by_cases w7:w<7
  ·have t7:tB (eOp ltN (eVar 5) (eC (.int 7))) [some (.ref c),some (.int ri),some (.int di),some (.int th),some v,some (.int w),none,none,none,some (.tup (ps.map It.d))] S2=.ok true S2:=by rw[zAt (zA5 (zA4 rfl) rfl rfl),xj w7]
   obtain⟨x,hx,ex⟩:∃x:String,(x="all"\/x="any")/\atL [tx "all",tx "any"] (w % 2)=some (tx x):=by
    rcases(show w % 2=0\/w % 2=1 by nofun)with e|e <;> rw[e]
    ·exact⟨_,.inl rfl,rfl⟩
    ·exact⟨_,.inr rfl,rfl⟩
   have m2:modD S2 (.int w) (.int 2)=some (.int (w % 2)):=zC9 (by decide);refine fin ⟨.tup [tx x,.tup (ps.map It.d)],_,1+(ps.map It.sz).sum⟩ S2 (zA1 st1 (zA1 (zA7 lf rfl) (zA1 (zA7 n3 rfl) (zA1 (zA7 n4 rfl) (zA1 (zA7 t5 rfl) (zA1 st9 (zAq (zAl t7 ?_)))))))) ⟨ps,.inr (.inr (.inr (.inr (.inr (.inl ⟨x,hx,rfl,rfl,pn,pl⟩))))),ru,rfl⟩ (by show 1+(ps.map It.sz).sum<=room;lia) f2 o2;simp_arith [m2,ex]
  ·have t7:tB (eOp ltN (eVar 5) (eC (.int 7))) [some (.ref c),some (.int ri),some (.int di),some (.int th),some v,some (.int w),none,none,none,some (.tup (ps.map It.d))] S2=.ok false S2:=by rw[zAt (zA5 (zA4 rfl) rfl rfl),xi w7]
   have pp:0<ps.length:=List.length_pos_iff.mpr pn;obtain⟨k,S3,e3,k0,k9,f3,o3⟩:=taken (many:=(ps.length:Nat)) (by(lia)) (by(lia)) f2;have ln:lenB S2 [.tup (ps.map It.d)]=some (.int (ps.length:Nat)):=by rw[zIn,xp]
   refine fin ⟨.tup [tx "least",.int (1+k),.tup (ps.map It.d)],_,1+(ps.map It.sz).sum⟩ S3 (zA1 st1 (zA1 (zA7 lf rfl) (zA1 (zA7 n3 rfl) (zA1 (zA7 n4 rfl) (zA1 (zA7 t5 rfl) (zA1 st9 (zA1 (zA7 t7 rfl) ?_))))))) ⟨ps,.inr (.inr (.inr (.inr (.inr (.inr ⟨1+k,⟨by nofun,by nofun⟩,rfl,rfl,pn,pl⟩))))),ru,rfl⟩ (by show 1+(ps.map It.sz).sum<=room;lia) f3 (o2.trans o3);simp_arith [ln,e3]
end
end DP
namespace TX
open PySem PySem.Builtin PySem.Builtin.Str
theorem zLe(x z:Str)(c:Nat):glued z (Txt.split x ⟨#[c]⟩)=Txt.replace x ⟨#[c]⟩ z:=by
 have one:glued z [x]=x:=rfl;have free:=StrLaws.split_free x c;have y0:((⟨#[c]⟩:Str).length == 0)=false:=rfl;unfold Txt.replace;rw[y0,Bool.false_and,Bool.or_false];by_cases he:(occurrences x ⟨#[c]⟩ 0 x.length (x.length+1)).isEmpty=true
 ·rw[xc he];unfold Txt.split;split
  ·exact one
  ·first|exact one|(rw[xc he];exact one)
 ·rw[xf he];unfold Txt.split at free ⊢;split
  ·rename_i hc;exfalso;rw[xc hc]at free;cases ho:occurrences x ⟨#[c]⟩ 0 x.length (x.length+1)with
   | nil=>rw[ho]at he;exact he rfl
   | cons i r=>
    have:=StrLaws.occ_spec x ⟨#[c]⟩ 0 x.length (x.length+1) i (by rw[ho];exact .head _);have h1:=(StrLaws.subAt_one x c i).mp this;exact free x (.head _) (vz h1)
  ·rfl
theorem zHd(z:Str)(p:Str)(ps:List Str):ls (glued z (p::ps))=ls p++ps.flatMap λq=>ls z++ls q:=by show((List.drop 1 (p::ps)).foldl (λacc q=>acc++z.cps++q.cps) ((p::ps).headD Str.empty).cps).toList=_;rw[fold_ls];rfl
theorem zIr{c:Nat}{Z:List Nat}:∀{p:List Nat},c ∉ p->(p.flatMap λk=>if k=c then Z else [k])=p
 | [],_=>rfl
 | k::p,h=>by
  rw[vP,zIr λm=>h (.tail _ m),xf λe=>h (by rw[e];exact .head _)];rfl
theorem zZq{c:Nat}{Z:List Nat}:∀(ps:List Str),(∀q∈ps,c ∉ ls q)->((ps.flatMap λq=>c::ls q).flatMap λk=>if k=c then Z else [k])=ps.flatMap λq=>Z++ls q
 | [],_=>rfl
 | q::ps,h=>by
  simp only[vP,uA,vG,xc];rw[zZq ps λx hx=>h x (.tail _ hx),zIr (h q (.head _)),vW]
theorem replace_ls(x z:Str)(c:Nat):ls (Txt.replace x ⟨#[c]⟩ z)=(ls x).flatMap λk=>if k=c then ls z else [k]:=by
 have hs:=join_split x c;have hf:=StrLaws.split_free x c;rw[<- zLe];cases hq:Txt.split x ⟨#[c]⟩with
 | nil=>
  have:=PyProof.Rows.split_pos x ⟨#[c]⟩;rw[hq]at this;simp at this
 | cons p ps=>
  rw[hq]at hs hf;rw[zHd];have e:ls x=ls p++ps.flatMap λq=>c::ls q:=by rw[<- hs,zHd];rfl
  rw[e,uA,zIr (hf p (.head _)),zZq ps λq hq=>hf q (.tail _ hq)]
end TX
namespace DP
open TX (ls jn)
def Sg(p:List Nat):Prop:=p=[40]\/p=[41]\/p=[32]
instance (p:List Nat):Decidable (Sg p):=inferInstanceAs (Decidable (_\/_\/_))
def Wd(p:List Nat):Prop:=p≠[]/\∀k∈p,k≠10/\k≠40/\k≠41/\k≠32
def Alt:List (List Nat)->Prop
 | []=>True
 | [p]=>Sg p\/Wd p
 | p::q::r=>(Sg p\/(Wd p/\Sg q))/\Alt (q::r)
noncomputable def parts:List (List Nat)->List (List Nat)
 | []=>[[]]
 | p::ps=>if Sg p then []::p::parts ps else match parts ps with
  | []=>[p]
  | q::qs=>(p++q)::qs
noncomputable def wrap (k:Nat):List Nat:=if k=40\/k=41\/k=32 then [10,k,10]else [k]
theorem Wd.sg{p:List Nat}(h:Wd p):¬ Sg p:=by
 rintro(rfl|rfl|rfl)
 ·exact(h.2 40 (.head _)).2.1 rfl
 ·exact(h.2 41 (.head _)).2.2.1 rfl
 ·exact(h.2 32 (.head _)).2.2.2 rfl
theorem Alt.tail{p:List Nat}{ps:List (List Nat)}(h:Alt (p::ps)):Alt ps:=by
 cases ps with
 | nil=>trivial
 | cons q r=>exact h.2
theorem Alt.head{p:List Nat}{ps:List (List Nat)}(h:Alt (p::ps)):Sg p\/Wd p:=by
 cases ps with
 | nil=>exact h
 | cons q r=>exact h.1.elim .inl λx=>.inr x.1
theorem zE9(ps:List (List Nat)):∃q qs,parts ps=q::qs:=by
 cases ps with
 | nil=>exact⟨_,_,rfl⟩
 | cons p ps=>
  unfold parts;split
  ·exact⟨_,_,rfl⟩
  ·split <;> exact⟨_,_,rfl⟩
theorem zDi{p:List Nat}{ps:List (List Nat)}(h:Sg p):parts (p::ps)=[]::p::parts ps:=by rw[parts,xc h]
theorem zE8{p q:List Nat}{ps qs:List (List Nat)}(h:¬ Sg p)(e:parts ps=q::qs):parts (p::ps)=(p++q)::qs:=by rw[parts,xf h,e]
theorem zTe{p:List Nat}(h:∀k∈p,k≠10/\k≠40/\k≠41/\k≠32):p.flatMap wrap=p:=by
 induction p with
 | nil=>rfl
 | cons k p ih=>
  have:=h k (.head _);rw[vP,ih λx hx=>h x (.tail _ hx),wrap,xf (by omega)];rfl
theorem zTf{p:List Nat}(h:Sg p):p.flatMap wrap=10::(p++[10]):=by rcases h with rfl|rfl|rfl <;> rfl
theorem zGe:∀{ps:List (List Nat)},Alt ps->jn 10 (parts ps)=ps.flatten.flatMap wrap
 | [],_=>rfl
 | p::ps,h=>by
  have ih:=zGe h.tail;obtain⟨q,qs,e⟩:=zE9 ps;rw[v9,uA,<- ih];rcases h.head with s|w
  ·rw[zDi s,zTf s,e];simp[jn]
  ·rw[zE8 w.sg e,zTe w.2,e];simp[jn]
theorem parts_free:∀{ps:List (List Nat)},Alt ps->∀q∈parts ps,10 ∉ q
 | [],_,q,hq=>by
  rw[parts]at hq;rw[xx.mp hq];simp
 | p::ps,h,x,hx=>by
  have ih:=parts_free h.tail;obtain⟨q,qs,e⟩:=zE9 ps;rw[e]at ih;rcases h.head with s|w
  ·rw[zDi s,e]at hx;rcases xr.mp hx with rfl|hx
   ·simp
   ·rcases xr.mp hx with rfl|hx
    ·rcases s with rfl|rfl|rfl <;> decide
    ·exact ih x hx
  ·rw[zE8 w.sg e]at hx;rcases xr.mp hx with rfl|hx
   ·intro m;rcases xH.mp m with m|m
    ·exact(w.2 10 m).1 rfl
    ·exact ih q (.head _) m
   ·exact ih x (.tail _ hx)
theorem zFg:∀{ps:List (List Nat)},Alt ps->(parts ps).filter (λp=>decide (p≠[]))=ps
 | [],_=>rfl
 | p::ps,h=>by
  have ih:=zFg h.tail;rcases h.head with s|w
  ·rw[zDi s,uf,xf (by simp),uf,xc (by rcases s with rfl|rfl|rfl <;> rfl),ih]
  ·cases ps with
   | nil=>
    rw[zE8 w.sg (show parts []=[[]]from rfl),xY,uf,xc (by simpa using w.1)];rfl
   | cons q r=>
    have sq:Sg q:=h.1.elim (λs=>absurd s w.sg) λx=>x.2
    rw[zDi sq,uf,xf (by simp)]at ih;rw[zE8 w.sg (zDi sq),xY,uf,xc (by simpa using w.1),ih]
theorem wrap3(l:List Nat):((l.flatMap λk=>if k=40 then [10,40,10]else [k]).flatMap λk=>if k=41 then [10,41,10]else [k]).flatMap (λk=>if k=32 then [10,32,10]else [k])=l.flatMap wrap:=by
 induction l with
 | nil=>rfl
 | cons k l ih=>
  simp only[vP,uA,ih];congr 1;unfold wrap;by_cases h1:k=40
  ·subst h1;rfl
  ·by_cases h2:k=41
   ·subst h2;rfl
   ·by_cases h3:k=32
    ·subst h3;rfl
    ·simp[h1,h2,h3]
open DS
open PySem (Str)
section
open Classical
noncomputable def mk (p:List Nat):Str:=⟨p.toArray⟩
theorem zBh(p:List Nat):ls (mk p)=p:=by simp[mk,ls]
theorem mk_inj{p q:List Nat}(h:mk p=mk q):p=q:=by rw[<- zBh p,h,zBh]
theorem zBj(t:Str):t.length=(ls t).length:=by simp[ls,PySem.Str.length]
theorem s_nl:PySem.Str.ofString "\n"=mk [10]:=rfl
theorem s_op:PySem.Str.ofString "("=mk [40]:=rfl
theorem s_cl:PySem.Str.ofString ")"=mk [41]:=rfl
theorem s_bl:PySem.Str.ofString " "=mk [32]:=rfl
theorem s_no:PySem.Str.ofString ""=mk []:=rfl
theorem zMr(x:Str)(c:Nat):ls (rep (mk [10]) x (mk [c]))=(ls x).flatMap λk=>if k=c then [10,c,10]else [k]:=
 (TX.replace_ls x (mk [10]++mk [c]++mk [10]) c).trans rfl
theorem fm3(f:Nat->List Nat)(h:∀k,(f k).length<=3)(l:List Nat):(l.flatMap f).length<=3*l.length:=by
 induction l with
 | nil=>exact xh _
 | cons a l ih=>rw[vP,xk,xv];have:=h a;omega
theorem one3(c k:Nat):(if k=c then [10,c,10]else [k]:List Nat).length<=3:=by split <;> simp
theorem zW4(l:List (List Nat)):l.length<=(l.flatMap λp=>10::p).length:=by
 induction l with
 | nil=>simp
 | cons a l ih=>rw[vP,xk,xv,xv];omega
theorem zHe:∀{ps:List (List Nat)},Alt ps->10 ∉ ps.flatten
 | [],_=>by simp
 | p::ps,h=>by
  rw[v9];intro m;rcases xH.mp m with m|m
  ·rcases h.head with s|w
   ·rcases s with rfl|rfl|rfl <;> simp at m
   ·exact(w.2 10 m).1 rfl
  ·exact zHe h.tail m
theorem zId{ps:List (List Nat)}(h:Alt ps)(hz:ls z=ps.flatten.flatMap wrap):PySem.Txt.split z (mk [10])=(parts ps).map mk:=by
 obtain⟨q,qs,e⟩:=zE9 ps;have f:=parts_free h;have j:=zGe h;rw[e]at f j ⊢;refine TX.split_of (x:=z) (c:=10) (p:=mk q) (ps:=qs.map mk) ?_ λx hx=>?_
 ·rw[hz,<- j,<- xt,xU];congr 1;rw[show(ls ∘ mk)=id from funext zBh,List.map_id]
 ·rw[<- xt]at hx;obtain⟨y,hy,rfl⟩:=xE.mp hx;rw[zBh];exact f y hy
theorem zMx{t:Str}{ps:List (List Nat)}(h:Alt ps)(ht:ls t=ps.flatten)(hl:t.length<=30000):zBl [.str t] S=.ok (.lst (ps.map λp=>D.str (mk p))) S:=by
 refine zAc rfl ?_ ?_
 ·unfold zEw;rw[s_nl,s_op,s_cl,s_bl,s_no];have in0:inT S (.str (mk [10])) (.str t)=some (.bl false):=by
   show(some (!(PySem.Builtin.Str.occurrences t (mk [10]) 0 t.length 1).isEmpty)).map D.bl=_;rw[show(mk [10])=⟨#[10]⟩from rfl,PySem.StrLaws.found_one];rw[xi (show ¬ 10∈t.cps.toList from by rw[show t.cps.toList=ls t from rfl,ht];exact zHe h)];rfl
  have c0:tB (eOp inT (eC (.str (mk [10]))) (eVar 0)) [some (.str t),none] S=.ok false S:=by rw[tB,zA5 (S:=S) (S1:=S) (S2:=S) rfl rfl in0];rfl
  refine zA1 (zA7 c0 rfl) ?_;have l0:=zBj t;have r1:=zMr t 40;have l1:=fm3 _ (one3 40) (ls t);rw[<- r1,<- zBj]at l1;have r2:=zMr (rep (mk [10]) t (mk [40])) 41;have l2:=fm3 _ (one3 41) (ls (rep (mk [10]) t (mk [40])));rw[<- r2,<- zBj,<- zBj]at l2;have r3:=zMr (rep (mk [10]) (rep (mk [10]) t (mk [40])) (mk [41])) 32;rw[r2,r1,wrap3,ht]at r3;generalize hz:rep (mk [10]) (rep (mk [10]) (rep (mk [10]) t (mk [40])) (mk [41])) (mk [32])=z at r3;have er:zG4 0 1 (mk [10]) (mk [40]) (mk [41]) (mk [32]) [some (.str t),none] S=.nx [some (.str z),some (.str (mk [32]))] S:=by unfold zG4;show(if t.length<=1048576/\_/\_ then _ else _)=_;rw[xc ⟨by omega,by omega,by omega⟩,hz];rfl
  refine zA1 er ?_;have lz:z.length<=3*t.length:=by rw[zBj z,r3,l0,ht];exact fm3 _ (λk=>by unfold wrap;split <;> simp) _
  have sp:=zId h r3;have np:((parts ps).map mk).length<=100000:=by
   rw[xp];obtain⟨q,qs,e⟩:=zE9 ps;have j:=congrArg List.length (zGe h);rw[<- r3,<- zBj,e,jn,xk]at j;have:=zW4 qs;rw[e,xv]
   omega
  have sm:splitM S (.str z) [.str (mk [10])]=some (.lst (((parts ps).map mk).map D.str),S):=by show(if 0<(mk [10]).length/\z.length<=100000/\(PySem.Txt.split z (mk [10])).length<=most then some (D.lst ((PySem.Txt.split z (mk [10])).map D.str),S)else none)=_;rw[sp,xc ⟨by show 0<1;decide,by omega,xq np (by decide)⟩]
  have sv:eMt "str" splitM (eVar 0) (zA0 (eC (.str (mk [10]))) aNil) [some (.str z),some (.str (mk [32]))] S=.ok (.lst (((parts ps).map mk).map D.str)) S:=zCq rfl (zAa rfl) sm;have fin:=zWb (h:=D.str) (f:=D.str) (p:=λy:Str=>decide (y≠mk [])) (own:=1) (ix:=[]) (gd:=[]) (g:=gName 0) (c:=tB (eOp neK (eVar 0) (eC (.str (mk []))))) (e:=eVar 0) (λenv=>∃o,env=[o]) (zK4 sv) zB1 ⟨none,rfl⟩ (xq np (by decide)) (λa _ env he=>by
   obtain⟨o,rfl⟩:=he;refine⟨[some (.str a)],rfl,⟨_,rfl⟩,?_,λ_=>rfl⟩;show tB (eOp neK (eVar 0) (eC (.str (mk [])))) [some (.str a)] S=_;rw[tB,zA5 (S:=S) (S1:=S) (S2:=S) (z:=.bl (!decide (a=mk []))) rfl rfl rfl,Rs.bind_ok];show lift _ _=_;by_cases c:a=mk []
   ·simp[c,truth,lift,asB]
   ·simp[c,truth,lift,asB])
  refine zAh (fin.trans ?_);congr 2;rw[List.filter_map];have:((λy:Str=>decide (y≠mk [])) ∘ mk)=λp:List Nat=>decide (p≠[]):=by
   funext p
   by_cases c:p=[]
   ·subst c;simp
   ·simp[c,show ¬ mk p=mk []from λe=>c (mk_inj e)]
  rw[this];have pf:=zFg h;rw[show(parts ps).filter (λp=>decide (p≠[]))=ps from by rw[<- pf];congr 1;exact pf.symm ▸ (by congr)] ;simp
 ·show lowL S.length (ps.map λp=>D.str (mk p))=true;exact zBi λd hd=>by obtain⟨p,_,rfl⟩:=xE.mp hd;rfl
mutual
theorem zG8{n m:Nat}(h:n<=m):∀{d:D},d.low n=true->d.low m=true
 | .tup l,e=>zBn h (l:=l) e
 | .lst l,e=>zBn h (l:=l) e
 | .ktup l,e=>zBn h (l:=l) e
 | .klst l,e=>zBn h (l:=l) e
 | .st l,e=>zBn h (l:=l) e
 | .dct _ ks vs,e=>by
  have e:(lowL n ks && lowL n vs)=true:=e;show(lowL m ks && lowL m vs)=true;rw[xl]at e ⊢;exact⟨zBn h e.1,zBn h e.2⟩
 | .ref k,e=>xj (xw (uO e) h)
 | .non,_=>rfl
 | .bl _,_=>rfl
 | .int _,_=>rfl
 | .str _,_=>rfl
 | .ty _,_=>rfl
theorem zBn{n m:Nat}(h:n<=m):∀{l:List D},lowL n l=true->lowL m l=true
 | [],_=>rfl
 | d::l,e=>by
  have e:(d.low n && lowL n l)=true:=e;show(d.low m && lowL m l)=true;rw[xl]at e ⊢;exact⟨zG8 h e.1,zBn h e.2⟩
end
structure Mc (S0:Store) (hs:List D) (rq:List (Nat × List D)) (S:Store):Prop where
 pre:∀k,k<S0.length->S[k]?=S0[k]?
 hd:S[S0.length]?=some (.lst hs)
 pt:S[S0.length+2]?=some (.lst (rq.map λx=>.ref x.1))
 at_:∀x∈rq,S[x.1]?=some (.lst x.2)
 far:∀x∈rq,S0.length<x.1/\x.1≠S0.length+2
 nd:(rq.map (·.1)).Nodup
 lo:∀k d,S0.length<=k->S[k]?=some d->d.low S.length=true
section
variable {S0 S:Store}{hs:List D}{rq rs:List (Nat × List D)}{m:Nat}{q:List D}{h d:D}
theorem zDa{l:Store}{k:Nat}(h:l[k]?=some d):k<l.length:=(xC.mp h).1
theorem zFc{l:Store}{k:Nat}(h:l[k]?=some d):(l.set k e)[k]?=some e:=vI (zDa h)
theorem zBm{l:Store}{j k:Nat}(h:j≠k):(l.set j e)[k]?=l[k]?:=vJ h
theorem Mc.setLo(M:Mc S0 hs rq S){j:Nat}{e:D}(he:e.low S.length=true):∀k d,S0.length<=k->(S.set j e)[k]?=some d->d.low (S.set j e).length=true:=λk d hk e1=>by
 rw[v8];by_cases c:j=k
 ·subst c;have hl:j<S.length:=by have:=zDa e1;simpa using this
  rw[vI hl]at e1;cases e1;exact he
 ·rw[zBm c]at e1;exact M.lo k d hk e1
theorem Mc.setH(M:Mc S0 hs rq S)(hl:lowL S.length hs'=true):Mc S0 hs' rq (S.set S0.length (.lst hs')) where
 pre k hk:=(zBm (by omega)).trans (M.pre k hk)
 hd:=zFc M.hd
 pt:=(zBm (by omega)).trans M.pt
 at_ x hx:=(zBm (by have:=M.far x hx;omega)).trans (M.at_ x hx)
 far:=M.far
 nd:=M.nd
 lo:=M.setLo (e:=.lst hs') hl
theorem Mc.popP(M:Mc S0 hs (rs++[(m,q)]) S):Mc S0 hs rs (S.set (S0.length+2) (.lst (rs.map λx=>.ref x.1))) where
 pre k hk:=(zBm (by omega)).trans (M.pre k hk)
 hd:=(zBm (by omega)).trans M.hd
 pt:=zFc M.pt
 at_ x hx:=(zBm (by have:=M.far x (vf _ hx);omega)).trans (M.at_ x (vf _ hx))
 far x hx:=M.far x (vf _ hx)
 nd:=by have:=M.nd;rw[xP]at this;exact(List.nodup_append.mp this).1
 lo:=M.setLo (by
  show lowL S.length _=true;refine zBi λd hd=>?_
  obtain⟨x,hx,rfl⟩:=xE.mp hd;exact xj (zDa (M.at_ x (vf _ hx))))
theorem Mc.setP(M:Mc S0 hs (rs++[(m,q)]) S)(hl:lowL S.length q'=true):Mc S0 hs (rs++[(m,q')]) (S.set m (.lst q')):=by
 have fm:=M.far (m,q) (xI _ (.head _));have nd:=M.nd;rw[xP]at nd;have dj:∀x∈rs,x.1≠m:=λx hx e=>(List.nodup_append.mp nd).2.2 x.1 (xE.mpr ⟨x,hx,rfl⟩) m (.head _) e
 have fm1:S0.length<m:=fm.1;have fm2:m≠S0.length+2:=fm.2;refine⟨λk hk=>(zBm (by omega)).trans (M.pre k hk),(zBm (by omega)).trans M.hd,?_,λx hx=>?_,λx hx=>?_,by rw[xP];exact nd,M.setLo (e:=.lst q') hl⟩
 ·rw[zBm fm2,M.pt];simp
 ·rcases xH.mp hx with hx|hx
  ·exact(zBm (dj x hx).symm).trans (M.at_ x (vf _ hx))
  ·rw[xx.mp hx];exact zFc (M.at_ (m,q) (xI _ (.head _)))
 ·rcases xH.mp hx with hx|hx
  ·exact M.far x (vf _ hx)
  ·rw[xx.mp hx];exact fm
theorem Mc.newP(M:Mc S0 hs rq S):Mc S0 hs (rq++[(S.length,[])]) ((S++[D.lst []]).set (S0.length+2) (D.lst ((rq++[(S.length,[])]).map λx:Nat × List D=>D.ref x.1))):=by
 have l2:=zDa M.pt;have up:∀k d,S[k]?=some d->(S++[D.lst []])[k]?=some d:=λk d e=>by rw[xN (zDa e)];exact e
 refine⟨λk hk=>?_,?_,?_,λx hx=>?_,λx hx=>?_,?_,λk d hk e=>?_⟩
 ·rw[zBm (by omega),xN (by omega)];exact M.pre k hk
 ·rw[zBm (by omega)];exact up _ _ M.hd
 ·exact zFc (up _ _ M.pt)
 ·rcases xH.mp hx with hx|hx
  ·rw[zBm (by have:=M.far x hx;omega)];exact up _ _ (M.at_ x hx)
  ·rw[xx.mp hx,zBm (by show S0.length+2≠S.length;omega)];simp
 ·rcases xH.mp hx with hx|hx
  ·exact M.far x hx
  ·rw[xx.mp hx];exact⟨by show S0.length<S.length;omega,by show S.length≠S0.length+2;omega⟩
 ·rw[xP,List.nodup_append];refine⟨M.nd,by simp,λa ha b hb e=>?_⟩;obtain⟨x,hx,rfl⟩:=xE.mp ha;have:=zDa (M.at_ x hx);simp at hb
  omega
 ·rw[v8,xk,xG];have hk2:k<(S++[D.lst []]).length:=by have:=zDa e;simpa using this
  by_cases c:S0.length+2=k
  ·subst c;rw[zFc (up _ _ M.pt)]at e;cases e;show lowL (S.length+1) _=true;refine zBi λd hd=>?_
   obtain⟨x,hx,rfl⟩:=xE.mp hd;refine xj ?_;rcases xH.mp hx with hx|hx
   ·have:=zDa (M.at_ x hx);omega
   ·rw[xx.mp hx];exact uv _
  ·rw[zBm c]at e;by_cases c2:k<S.length
   ·rw[xN c2]at e;exact zG8 (ub _) (M.lo k d hk e)
   ·have:k=S.length:=by rw[xk,xG]at hk2;omega
    subst this;rw[xM (xh _),vH]at e;cases e;rfl
end
end
section
variable (LeafOk:List Nat->D->Prop) (HeadOk:List (List Nat)->D->Prop) (Clo:D->List D->D->Prop)
mutual
/-- these pieces are this rule's -/
inductive RT:List (List Nat)->D->Prop
 | leaf {w:List Nat}{d:D}(h:LeafOk w d):RT [w] d
 | node {hp l:List (List Nat)}{h d:D}{ds:List D}(hh:HeadOk hp h) (hl:RTs l ds) (hc:Clo h ds d):RT (hp++(l++[[41]])) d
inductive RTs:List (List Nat)->List D->Prop
 | one {p:List (List Nat)}{d:D}(h:RT p d):RTs p [d]
 | cons {p l:List (List Nat)}{d:D}{ds:List D}(h:RT p d) (t:RTs l ds):RTs (p++([32]::l)) (d::ds)
end
variable (P:List (List Nat))
inductive Cl:Nat->List D->List (List D)->Nat->List D->List (List D)->Prop
 | nil {i:Nat}{hs:List D}{qs:List (List D)}:Cl i hs qs i hs qs
 | step {i j:Nat}{hs hs2:List D}{h d:D}{rs qs2:List (List D)}{q1 q2:List D}(hp:P[i]?=some [41]) (hc:Clo h q2 d) (t:Cl (i+1) hs (rs++[q1++[d]]) j hs2 qs2):Cl i (hs++[h]) (rs++[q1]++[q2]) j hs2 qs2
inductive Rd:Nat->List D->List (List D)->D->Prop
 | head {i:Nat}{hp rest:List (List Nat)}{h R:D}{hs:List D}{qs:List (List D)}(hd:HeadOk hp h) (e:P.drop i=hp++rest) (t:Rd (i+hp.length) (hs++[h]) (qs++[[]]) R):Rd i hs qs R
 | last {i:Nat}{w:List Nat}{d R:D}{hs:List D}{qs:List (List D)}{q:List D}(hl:LeafOk w d) (e:P[i]?=some w) (n:P[i+1]?≠some [40]) (t:Cl Clo P (i+1) hs (qs++[q++[d]]) P.length [] [[R]]):Rd i hs (qs++[q]) R
 | leaf {i j:Nat}{w:List Nat}{d R:D}{hs hs2:List D}{qs qs2:List (List D)}{q:List D}(hl:LeafOk w d) (e:P[i]?=some w) (n:P[i+1]?≠some [40]) (t:Cl Clo P (i+1) hs (qs++[q++[d]]) j hs2 qs2) (hn:hs2≠[]) (b:P[j]?=some [32]) (r:Rd (j+1) hs2 qs2 R):Rd i hs (qs++[q]) R
def Bh(i:Nat)(hs:List D)(qs:List (List D))(R:D):Prop:=
 Cl Clo P i hs qs P.length [] [[R]]\/∃j hs2 qs2,Cl Clo P i hs qs j hs2 qs2/\hs2≠[]/\P[j]?=some [32]/\Rd LeafOk HeadOk Clo P (j+1) hs2 qs2 R
variable {LeafOk HeadOk Clo P}
theorem Bh.step{i:Nat}(hp:P[i]?=some [41])(hc:Clo h q2 d)(t:Bh LeafOk HeadOk Clo P (i+1) hs (rs++[q1++[d]]) R):Bh LeafOk HeadOk Clo P i (hs++[h]) (rs++[q1]++[q2]) R:=by
 rcases t with t|⟨j,hs2,qs2,t,r⟩
 ·exact .inl (.step hp hc t)
 ·exact .inr ⟨j,hs2,qs2,.step hp hc t,r⟩
theorem Rd.of_leaf{i:Nat}{w:List Nat}(hl:LeafOk w d)(e:P[i]?=some w)(n:P[i+1]?≠some [40])(t:Bh LeafOk HeadOk Clo P (i+1) hs (qs++[q++[d]]) R):Rd LeafOk HeadOk Clo P i hs (qs++[q]) R:=by
 rcases t with t|⟨j,hs2,qs2,t,hn,b,r⟩
 ·exact .last hl e n t
 ·exact .leaf hl e n t hn b r
theorem rd_of{p:List (List Nat)}(h:RT LeafOk HeadOk Clo p d):∀(i:Nat) (rest:List (List Nat)) (hs:List D) (qs:List (List D)) (q:List D) (R:D),P.drop i=p++rest->rest.head?≠some [40]->Bh LeafOk HeadOk Clo P (i+p.length) hs (qs++[q++[d]]) R->Rd LeafOk HeadOk Clo P i hs (qs++[q]) R:=by
 refine RT.rec (LeafOk:=LeafOk) (HeadOk:=HeadOk) (Clo:=Clo)
  (motive_1:=λp d _=>∀(i:Nat) (rest:List (List Nat)) (hs:List D) (qs:List (List D)) (q:List D) (R:D),P.drop i=p++rest->rest.head?≠some [40]->Bh LeafOk HeadOk Clo P (i+p.length) hs (qs++[q++[d]]) R->Rd LeafOk HeadOk Clo P i hs (qs++[q]) R)
  (motive_2:=λl ds _=>∀(i:Nat) (rest:List (List Nat)) (hs:List D) (h:D) (qs:List (List D)) (q:List D) (R:D),P.drop i=l++([41]::rest)->Bh LeafOk HeadOk Clo P (i+l.length) (hs++[h]) (qs++[q++ds]) R->Rd LeafOk HeadOk Clo P i (hs++[h]) (qs++[q]) R) ?_ ?_ ?_ ?_ h
 ·intro w d hl i rest hs qs q R e hr t;have e0:P[i]?=some w:=by
   have:=congrArg (·[0]?) e;simpa using this
  have e1:P[i+1]?≠some [40]:=by have:=congrArg (·[1]?) e;simp only[uR,vG,ue,List.getElem?_cons_succ]at this;rw[this,<- List.head?_eq_getElem?];exact hr
  exact .of_leaf hl e0 e1 t
 ·intro hp l h d ds hh _ hc ih i rest hs qs q R e hr t;rw[vW,vW]at e;refine .head hh e ?_;have e2:P.drop (i+hp.length)=l++([41]::rest):=by
   rw[<- List.drop_drop,e,List.drop_left];simp
  refine ih (i+hp.length) rest hs h (qs++[q]) [] R e2 ?_;rw[ue];refine .step ?_ hc ?_
  ·have:=congrArg (·[l.length]?) e2;simpa[uR]using this
  ·have ee:i+(hp++(l++[[41]])).length=i+hp.length+l.length+1:=by simp;omega
   rw[ee]at t;exact t
 ·intro p d _ ih i rest hs h qs q R e t;exact ih i ([41]::rest) (hs++[h]) qs q R e (by simp) t
 ·intro p l d ds _ _ ih1 ih2 i rest hs h qs q R e t;rw[vW,vG]at e;have e2:P.drop (i+p.length+1)=l++([41]::rest):=by
   rw[<- List.drop_drop,<- List.drop_drop,e,List.drop_left];rfl
  refine ih1 i ([32]::(l++[41]::rest)) (hs++[h]) qs q R e (by simp) (.inr ⟨_,_,_,.nil,by simp,?_,?_⟩)
  ·have:=congrArg (·[p.length]?) e;simpa[uR]using this
  ·refine ih2 (i+p.length+1) rest hs h qs (q++[d]) R e2 ?_;have ee:i+(p++([32]::l)).length=i+p.length+1+l.length:=by simp;omega
   rw[ee]at t;rw[vW];exact t
theorem zXs(h:RT LeafOk HeadOk Clo P d):Rd LeafOk HeadOk Clo P 0 [] [[]] d:=by have:=rd_of (P:=P) h 0 [] [] [] [] d (by simp) (by simp) (.inl (by rw[Nat.zero_add];exact .nil));exact this
end
section
open Classical
noncomputable def PD (p:List Nat):D:=.str (mk p)
noncomputable abbrev PL (P:List (List Nat)):D:=.lst (P.map PD)
theorem cut1{α:Type}(l:List α)(i k:Nat)(hk:k=i+1):cutL l (some (i:Int)) (some (k:Int))=(l[i]?).toList:=by
 unfold cutL sIx;simp only[];rw[xf (by omega),xf (by omega),vT,vT];by_cases h:i<l.length
 ·rw[ug (by omega),ug (by omega),xo h,show k-i=1 by omega];rw[List.drop_eq_getElem_cons h];rfl
 ·rw[Nat.min_eq_right (by omega),Nat.min_eq_right (by omega),vH,x6 (by omega)];rfl
theorem zJr{P:List (List Nat)}{i k:Nat}{s:List Nat}(hk:k=i+1):(slD S (PL P) (some (i:Int)) (some (k:Int))).bind (λx=>eqLS S x (.lst [PD s]))=some (.bl (decide (P[i]?=some s))):=by
 show(some (D.lst (cutL (P.map PD) (some (i:Int)) (some (k:Int))))).bind _=_;rw[cut1 _ _ _ hk,Option.bind_some];show(eqLO S (.lst ((P.map PD)[i]?).toList) (.lst [PD s])).map D.bl=_;have e1:((P.map PD)[i]?).toList=((P[i]?).toList.map mk).map D.str:=by rw[xO];cases P[i]? <;> rfl
 have e2:eqLO S (.lst ((P.map PD)[i]?).toList) (.lst [PD s])=some (decide ((P[i]?).toList.map mk=[mk s])):=by rw[e1];show(match strsOf (((P[i]?).toList.map mk).map D.str),strsOf ([mk s].map D.str)with|some a,some b=>some (decide (a=b))|_,_=>none)=_;rw[zBr,zBr]
 rw[e2];show some (D.bl _)=_;congr 2;rw[vc];cases P[i]? with
 | none=>simp
 | some p=>exact⟨λh=>by have:=ud h;rw[mk_inj this.1],λh=>by cases h;rfl⟩
noncomputable abbrev bpC:TM:=tB (eOp eqLS (eSl slD (eVar 0) (pYes (eVar 1)) (pYes (eOp addD (eVar 1) (eC (.int 1))))) (eLst (zA0 (eC (.str (PySem.Str.ofString ")"))) aNil)))
noncomputable abbrev bpB:SM:=sSeq (sIf (tNot (tTru (eVar 2))) (sRet (eC .non)) zAd)
  (sSeq (sSet 4 (zA3 zDo (zA0 (eMt "list" popM (eVar 2) aNil) (zA0 (eCB zCn (zA0 (eMt "list" popM (eVar 3) aNil) aNil)) aNil))))
  (sSeq (sIf (tB (eOp isD (eVar 4) (eC .non))) (sRet (eC .non)) zAd)
  (sSeq (zAp (eMt "list" zAi (eOp ixD (eVar 3) (eUn negD (eC (.int 1)))) (zA0 (eVar 4) aNil)))
  (sSet 1 (eOp addD (eVar 1) (eC (.int 1)))))))
noncomputable abbrev bpE (S0:Store) (P:List (List Nat)) (i:Nat) (o:Option D):Env:=[some (PL P),some (.int (i:Int)),some (.ref S0.length),some (.ref (S0.length+2)),o]
def CloM(h:D)(ds:List D)(d:D):Prop:=(∀S,zDo [h,.tup ds] S=.ok d S)/\d≠.non/\(∀n,d.low n=true)/\ds.length<1000
theorem bp_c{P:List (List Nat)}:bpC (bpE S0 P i o) S=.ok (decide (P[i]?=some [41])) S:=by have:=zJr (S:=S) (P:=P) (i:=i) (k:=i+1) (s:=[41]) rfl;have sl:eSl slD (eVar 0) (pYes (eVar 1)) (pYes (eOp addD (eVar 1) (eC (.int 1)))) (bpE S0 P i o) S=.ok (.lst (cutL (P.map PD) (some (i:Int)) (some ((i+1:Nat):Int)))) S:=rfl;have e2:eqLS S (.lst (cutL (P.map PD) (some (i:Int)) (some ((i+1:Nat):Int)))) (.lst [PD [41]])=some (.bl (decide (P[i]?=some [41]))):=this;show tB (eOp eqLS _ _) _ _=_;rw[tB,zA5 sl (show eLst (zA0 (eC (.str (PySem.Str.ofString ")"))) aNil) (bpE S0 P i o) S=.ok (.lst [PD [41]]) S from rfl) e2];rfl
theorem zXb{c:Nat}(h:S[c]?=some (.lst l)):tyD S (.ref c)=some "list":=by unfold tyD look;dsimp only;rw[h]
theorem zB4{c:Nat}(h:S[c]?=some d):look S (.ref c)=some d:=h
theorem zCr{c:Nat}{g:Store->D->List D->Option (D × Store)}{o:EM}{a:AM}(ho:o env S=.ok (.ref c) S)(h:S[c]?=some (.lst l))(ha:a env S=.ok xs S1)(hg:g S1 (.ref c) xs=some (v,S2)):eMt "list" g o a env S=.ok v S2:=by rw[eMt,ho,Rs.bind_ok,xc (zXb h),ha,Rs.bind_ok,hg];rfl
theorem pop_at{S:Store}{c:Nat}(h:S[c]?=some (.lst (l++[d]))):popM S (.ref c) []=some (d,S.set c (.lst l)):=by show(match S[c]? with|some (.lst l)=>(l[l.length-1]?).map λv=>(v,S.set c (.lst l.dropLast))|_=>none)=_;rw[h];show((l++[d])[(l++[d]).length-1]?).map _=_;rw[xk,xG,Nat.add_sub_cancel,xM (xh _),vH,List.dropLast_concat];rfl
theorem zI7{S:Store}{c:Nat}{l:List D}(h:S[c]?=some (.lst l))(hl:l.length<1000000):zAi S (.ref c) [d]=some (.non,S.set c (.lst (l++[d]))):=by show(match S[c]? with|some (.lst l)=>if l.length<most then some (D.non,S.set c (.lst (l++[d])))else none|_=>none)=_;rw[h];exact xc (xw hl (by decide))
theorem zNn{c:Nat}(h:S[c]?=some (.lst (l++[d]))):ixD S (.ref c) (.int (-1))=some d:=by
 unfold ixD;rw[zB4 h];refine atM (k:=l.length) ?_ ?_
 ·rw[xk,xG];omega
 ·rw[xM (xh _),vH];rfl
theorem zPy{c:Nat}(h:S[c]?=some (.lst l)):zCn S [.ref c]=some (.tup l):=by show(litems S (.ref c)).map D.tup=_;unfold litems;dsimp only;rw[zB4 h];rfl
theorem zEh{c:Nat}(h:S[c]?=some (.lst l))(hl:l≠[]):truth S (.ref c)=some true:=by
 unfold truth;rw[zB4 h];cases l with
 | nil=>exact absurd rfl hl
 | cons a r=>rfl
theorem zNx(h:d≠.non):isN d=false:=by cases d <;> first|rfl|exact absurd rfl h
theorem zIl{n:Nat}:∀{l:List D},lowL n l=true->∀x∈l,x.low n=true
 | a::r,e,x,hx=>by
  have e:(a.low n && lowL n r)=true:=e;rw[xl]at e;rcases xr.mp hx with rfl|hx
  ·exact e.1
  ·exact zIl e.2 x hx
theorem zIm{n:Nat}{d:D}(h1:lowL n ds=true)(h2:d.low n=true):lowL n (ds++[d])=true:=
 zBi λx hx=>(xH.mp hx).elim (zIl h1 x) λhx=>by rw[xx.mp hx];exact h2
theorem bp_b{P:List (List Nat)}{i:Nat}{o:Option D}{rs:List (Nat × List D)}{m1 m2:Nat}{q1:List D}(M:Mc S0 (hs++[h]) (rs++[(m1,q1)]++[(m2,q2)]) S)(hc:CloM h q2 d)(hq:q1.length<1000000):
  ∃S',bpB (bpE S0 P i o) S=.nx (bpE S0 P (i+1) (some d)) S'/\Mc S0 hs (rs++[(m1,q1++[d])]) S'/\S'.length=S.length:=by
 obtain⟨hcl,hn,hlo,hz⟩:=hc;have lowh:lowL S.length hs=true:=by have:=M.lo S0.length _ (xh _) M.hd;have e:lowL S.length (hs++[h])=true:=this;exact zBi λx hx=>zIl e x (vf _ hx)
 have M1:Mc S0 hs (rs++[(m1,q1)]++[(m2,q2)]) (S.set S0.length (.lst hs)):=M.setH lowh;generalize hS1:S.set S0.length (.lst hs)=S1 at M1;have a2:=M1.at_ (m2,q2) (xI _ (.head _));have f2:=M1.far (m2,q2) (xI _ (.head _));have M2:=M1.popP;have pt:=M1.pt;rw[xP]at pt;generalize hS2:S1.set (S0.length+2) (.lst ((rs++[(m1,q1)]).map λx:Nat × List D=>D.ref x.1))=S2 at M2;have a2':S2[m2]?=some (.lst q2):=by rw[<- hS2,zBm f2.2.symm];exact a2
 have a1:=M2.at_ (m1,q1) (xI _ (.head _));have pt2:=M2.pt;rw[xP]at pt2;have lo1:lowL S2.length q1=true:=M2.lo m1 _ (vB (M2.far (m1,q1) (xI _ (.head _))).1) a1;have M3:=M2.setP (q':=q1++[d]) (zIm lo1 (hlo _));refine⟨S2.set m1 (.lst (q1++[d])),?_,M3,by rw[v8,<- hS2,v8,<- hS1,v8]⟩;have t0:tNot (tTru (eVar 2)) (bpE S0 P i o) S=.ok false S:=by show tNot _ _ _=_;rw[tNot,tTru,show eVar 2 (bpE S0 P i o) S=.ok (.ref S0.length) S from rfl,Rs.bind_ok,zEh M.hd (by simp)];rfl
 have p1:eMt "list" popM (eVar 2) aNil (bpE S0 P i o) S=.ok h S1:=zCr rfl M.hd rfl (by rw[pop_at M.hd,hS1]);have p2:eMt "list" popM (eVar 3) aNil (bpE S0 P i o) S1=.ok (.ref m2) S2:=zCr rfl M1.pt rfl (by
  rw[pop_at (l:=(rs++[(m1,q1)]).map λx:Nat × List D=>D.ref x.1) (d:=.ref m2) pt,hS2])
 have p3:eCB zCn (zA0 (eMt "list" popM (eVar 3) aNil) aNil) (bpE S0 P i o) S1=.ok (.tup q2) S2:=by rw[eCB,zAa p2,Rs.bind_ok,zPy a2'];rfl
 have s4:sSet 4 (zA3 zDo (zA0 (eMt "list" popM (eVar 2) aNil) (zA0 (eCB zCn (zA0 (eMt "list" popM (eVar 3) aNil) aNil)) aNil))) (bpE S0 P i o) S=.nx (bpE S0 P i (some d)) S2:=by show sSet 4 _ _ _=_;rw[sSet,zA8 (zAk p1 (zAa p3)) (hcl S2)];rfl
 have t5:tB (eOp isD (eVar 4) (eC .non)) (bpE S0 P i (some d)) S2=.ok false S2:=by show tB _ _ _=_;rw[tB,zA5 (x:=d) (y:=.non) (z:=.bl (isN d)) (S:=S2) (S1:=S2) (S2:=S2) rfl rfl rfl,zNx hn];rfl
 have o6:eOp ixD (eVar 3) (eUn negD (eC (.int 1))) (bpE S0 P i (some d)) S2=.ok (.ref m1) S2:=zA5 (x:=.ref (S0.length+2)) (y:=.int (-1)) (S:=S2) (S1:=S2) (S2:=S2) rfl rfl (zNn (l:=rs.map λx:Nat × List D=>D.ref x.1) pt2);have s6:zAp (eMt "list" zAi (eOp ixD (eVar 3) (eUn negD (eC (.int 1)))) (zA0 (eVar 4) aNil)) (bpE S0 P i (some d)) S2=.nx (bpE S0 P i (some d)) (S2.set m1 (.lst (q1++[d]))):=by show zAp _ _ _=_;rw[zAp,zCr o6 a1 (zAa rfl) (zI7 a1 hq)];rfl
 refine zA1 (zA7 t0 rfl) (zA1 s4 (zA1 (zA7 t5 rfl) (zA1 s6 ?_)));rfl
theorem split2{rq:List (Nat × List D)}(h:rs++[q1]++[q2]=rq.map (·.2)):∃r m1 m2,rq=r++[(m1,q1)]++[(m2,q2)]/\r.map (·.2)=rs:=by obtain⟨a,b,e1,e2,e3⟩:=List.map_eq_append_iff.mp h.symm;obtain⟨a1,b1,f1,f2,f3⟩:=List.map_eq_append_iff.mp e2;obtain⟨x,t,g1,g2,g3⟩:=List.map_eq_cons_iff.mp e3;obtain⟨y,t',k1,k2,k3⟩:=List.map_eq_cons_iff.mp f3;have t0:t=[]:=u3.mp g3;have t1:t'=[]:=u3.mp k3;refine⟨a1,y.1,x.1,?_,f2⟩;rw[e1,f1,g1,k1,t0,t1,<- g2,<- k2]
def Wq(qs:List (List D))(i:Nat):Prop:=∀q∈qs,q.length<=i
theorem zWx{P:List (List Nat)}(hP:P.length<=100000){i:Nat}(t:Cl CloM P i hs qs j hs2 qs2):∀(rq:List (Nat × List D)) (S:Store) (o:Option D),qs=rq.map (·.2)->Mc S0 hs rq S->Wq qs i->P[j]?≠some [41]->
  ∃n o' S' rq',zAr bpC bpB n (bpE S0 P i o) S=.nx (bpE S0 P j o') S'/\Mc S0 hs2 rq' S'/\qs2=rq'.map (·.2)/\S'.length=S.length/\Wq qs2 j:=by
 induction t with
 | @nil i hs qs=>
  intro rq S o e M w hj;refine⟨1,o,S,rq,?_,M,e,rfl,w⟩;rw[zAr,bp_c,xi hj];rfl
 | @step i j hs hs2 h d rs qs2 q1 q2 hp hc t ih=>
  intro rq S o e M w hj;obtain⟨r,m1,m2,rfl,er⟩:=split2 e;have hi:i<P.length:=(xC.mp hp).1;have w1:q1.length<=i:=w q1 (by simp);obtain⟨S1,b1,M1,l1⟩:=bp_b (P:=P) (i:=i) (o:=o) M hc (by omega);obtain⟨n,o',S',rq',k1,k2,k3,k4,k5⟩:=ih (r++[(m1,q1++[d])]) S1 (some d) (by simp[er]) M1 (λq hq=>by
   rcases xH.mp hq with hq|hq
   ·have:=w q (by simp[hq]);omega
   ·rw[xx.mp hq,xk,xG];omega) hj
  refine⟨n+1,o',S',rq',?_,k2,k3,k4.trans l1,k5⟩;rw[zAr,bp_c,xj hp,Rs.then_ok,xc rfl,b1];exact k1
theorem yAu{S S':Store}{rq rq':List (Nat × List D)}(M:Mc S0 hs rq S)(M':Mc S0 hs2 rq' S')(l:S'.length=S.length){v:D}(hv:v.low S.length=true):fin S v S'=.ok v S':=
 zZs l.symm (λk d e=>by
  by_cases hk:k<S0.length
  ·exact .inl (by rw[M.pre k hk,<- M'.pre k hk];exact e)
  ·exact .inr (by rw[<- l];exact M'.lo k d (by omega) e)) hv
theorem yCr{P:List (List Nat)}(hP:P.length<=100000){j:Nat}{rq:List (Nat × List D)}(t:Cl CloM P i hs (rq.map (·.2)) j hs2 qs2)(M:Mc S0 hs rq S)(w:Wq (rq.map (·.2)) i)(hj:j=P.length\/(P[j]?=some [32]/\hs2≠[])):
  ∃S' rq',zBf [PL P,.int (i:Int),.ref S0.length,.ref (S0.length+2)] S=.ok (.int ((if j=P.length then j else j+1:Nat):Int)) S'/\Mc S0 hs2 rq' S'/\qs2=rq'.map (·.2)/\S'.length=S.length/\Wq qs2 j:=by
 have hn:P[j]?≠some [41]:=by
  rcases hj with rfl|⟨h,_⟩
  ·rw[x6 (xh _)];simp
  ·rw[h];simp
 obtain⟨n,o',S',rq',e,M',e2,l,w2⟩:=zWx hP t rq S none rfl M w hn;refine⟨S',rq',?_,M',e2,l,w2⟩;have ew:zC2 bpC bpB (bpE S0 P i none) S=.nx (bpE S0 P j o') S':=by rw[zDg (n:=n) (by rw[e];intro z;cases z),e]
 have tl:tB (eOp eqI (eVar 1) (eCB lenB (zA0 (eVar 0) aNil))) (bpE S0 P j o') S'=.ok (decide ((j:Int)=(P.length:Int))) S':=by
  show tB _ _ _=_;rw[tB,zA5 (x:=.int (j:Int)) (y:=.int (P.length:Int)) (z:=.bl (decide ((j:Int)=(P.length:Int)))) (S:=S') (S1:=S') (S2:=S') rfl (by
   show Rs.ok (D.int ((P.map PD).length:Int)) S'=_;rw[xp]) rfl]
  rfl
 have run:zBq (bpE S0 P i none) S=.rt (.int ((if j=P.length then j else j+1:Nat):Int)) S':=by
  refine zA1 ew ?_;by_cases c:j=P.length
  ·refine zAq (zAl (by rw[tl,xj (by omega)]) ?_);rw[xc c];rfl
  ·refine zA1 (zA7 (by rw[tl,xi (by omega)]) rfl) ?_;rw[xf c];obtain⟨hb,h2⟩:=hj.resolve_left c;have ix:eOp ixD (eVar 0) (eVar 1) (bpE S0 P j o') S'=.ok (PD [32]) S':=zA5 (x:=PL P) (y:=.int (j:Int)) (S:=S') (S1:=S') (S2:=S') rfl rfl (atN (k:=j) rfl (by rw[xO,hb];rfl));have tt:tAnd (tTru (eVar 2)) (tB (eOp eqY (eOp ixD (eVar 0) (eVar 1)) (eC (.str (PySem.Str.ofString " "))))) (bpE S0 P j o') S'=.ok true S':=by
    show tAnd _ _ _ _=_;rw[tAnd,tTru,show eVar 2 (bpE S0 P j o') S'=.ok (.ref S0.length) S' from rfl,Rs.bind_ok,zEh M'.hd h2,zDk,Rs.bind_ok,xc rfl,tB,zA5 (x:=PD [32]) (y:=PD [32]) (z:=.bl (decide (mk [32]=mk [32]))) (S:=S') (S1:=S') (S2:=S') ix rfl rfl,xj rfl];rfl
   refine zAh ?_;show eIf _ _ _ _ _=_;rw[eIf,tt,Rs.bind_ok,xc rfl];rfl
 show zAg 4 5 zBq _ _=_;unfold zAg;rw[xc (show [PL P,D.int (i:Int),D.ref S0.length,D.ref (S0.length+2)].length=4 from rfl)];rw[show zBq (([PL P,.int (i:Int),.ref S0.length,.ref (S0.length+2)]:List D).map some++List.replicate (5-4) none) S=.rt (.int ((if j=P.length then j else j+1:Nat):Int)) S' from run];exact yAu M M' l rfl
noncomputable abbrev riC:TM:=tB (eOp ltN (eVar 4) (eCB lenB (zA0 (eVar 1) aNil)))
noncomputable abbrev riL:EM:=eIf (tB (eOp inD (eOp ixD (eVar 5) (eC (.int 0))) (eTup (zA0 (eC (.str (PySem.Str.ofString "at"))) (zA0 (eC (.str (PySem.Str.ofString "by"))) aNil))))) (eC (.int 4)) (eC (.int 2))
noncomputable abbrev riH:SM:=sSeq (sSet 5 (zA3 zCu (zA0 (eVar 1) (zA0 (eVar 4) aNil))))
  (sSeq (sIf (tB (eOp isD (eVar 5) (eC .non))) (sRet (eC .non)) zAd)
  (sSeq (zAp (eMt "list" zAi (eVar 2) (zA0 (eVar 5) aNil)))
  (sSeq (zAp (eMt "list" zAi (eVar 3) (zA0 (eNew (eLst aNil)) aNil)))
  (sSet 4 (eOp addD (eVar 4) riL)))))
noncomputable abbrev riF:SM:=sSeq (sSet 6 (zA3 zCt (zA0 (eOp ixD (eVar 1) (eVar 4)) aNil)))
  (sSeq (sIf (tB (eOp isD (eVar 6) (eC .non))) (sRet (eC .non)) zAd)
  (sSeq (zAp (eMt "list" zAi (eOp ixD (eVar 3) (eUn negD (eC (.int 1)))) (zA0 (eVar 6) aNil)))
  (sSeq (sSet 4 (zA3 zBf (zA0 (eVar 1) (zA0 (eOp addD (eVar 4) (eC (.int 1))) (zA0 (eVar 2) (zA0 (eVar 3) aNil))))))
  (sIf (tB (eOp isD (eVar 4) (eC .non))) (sRet (eC .non)) zAd))))
noncomputable abbrev riT:TM:=tB (eOp eqLS (eSl slD (eVar 1) (pYes (eOp addD (eVar 4) (eC (.int 1)))) (pYes (eOp addD (eVar 4) (eC (.int 2))))) (eLst (zA0 (eC (.str (PySem.Str.ofString "("))) aNil)))
noncomputable abbrev riB:SM:=sIf riT riH riF
noncomputable abbrev riE (S0:Store) (t:D) (P:List (List Nat)) (i:Nat) (o5 o6:Option D):Env:=[some t,some (PL P),some (.ref S0.length),some (.ref (S0.length+2)),some (.int (i:Int)),o5,o6]
theorem zKw:zI4=(sSeq (sSet 1 (zA3 zBl (zA0 (eVar 0) aNil)))
  (sSeq (sSet 2 (eNew (eLst aNil)))
  (sSeq (sSet 3 (eNew (eLst (zA0 (eNew (eLst aNil)) aNil))))
  (sSeq (sSet 4 (eC (.int 0)))
  (sSeq (zC2 riC riB)
  (sRet (eIf (tAnd (tTru (eOp ixD (eVar 3) (eC (.int 0)))) (tNot (tTru (eVar 2)))) (eOp ixD (eOp ixD (eVar 3) (eC (.int 0))) (eC (.int 0))) (eC .non)))))))):=rfl
def zI9(w:List Nat)(d:D):Prop:=(∀S,zCt [PD w] S=.ok d S)/\d≠.non/\∀n,d.low n=true
def zFa(hp:List (List Nat))(h:D):Prop:=h≠.non/\(∀n,h.low n=true)/\2<=hp.length/\hp[1]?=some [40]/\(∀(P rest:List (List Nat)) (i:Nat) (S:Store),P.drop i=hp++rest->zCu [PL P,.int (i:Int)] S=.ok h S) /\
 ∀(env:Env) (S:Store),env[5]?=some (some h)->riL env S=.ok (.int (hp.length:Int)) S
theorem Cl.le{P:List (List Nat)}{i j:Nat}{hs hs2:List D}(t:Cl CloM P i hs qs j hs2 qs2):i<=j/\hs2.length<=hs.length:=by
 induction t with
 | nil=>exact⟨xh _,xh _⟩
 | step _ _ _ ih=>rw[xk,xG];omega
theorem ri_c{P:List (List Nat)}{i:Nat}(hi:i<P.length):riC (riE S0 t P i o5 o6) S=.ok true S:=by
 show tB _ _ _=_;rw[tB,zA5 (x:=.int (i:Int)) (y:=.int (P.length:Int)) (z:=.bl (decide ((i:Int)<(P.length:Int)))) (S:=S) (S1:=S) (S2:=S) rfl (by
   show Rs.ok (D.int ((P.map PD).length:Int)) S=_;rw[xp]) rfl,xj (by omega)]
 rfl
theorem ri_e{P:List (List Nat)}:riC (riE S0 t P P.length o5 o6) S=.ok false S:=by
 show tB _ _ _=_;rw[tB,zA5 (x:=.int (P.length:Int)) (y:=.int (P.length:Int)) (z:=.bl (decide ((P.length:Int)<(P.length:Int)))) (S:=S) (S1:=S) (S2:=S) rfl (by
   show Rs.ok (D.int ((P.map PD).length:Int)) S=_;rw[xp]) rfl,xi (by omega)]
 rfl
theorem ri_t{P:List (List Nat)}{i:Nat}:riT (riE S0 t P i o5 o6) S=.ok (decide (P[i+1]?=some [40])) S:=by have:=zJr (S:=S) (P:=P) (i:=i+1) (k:=i+2) (s:=[40]) rfl;have sl:eSl slD (eVar 1) (pYes (eOp addD (eVar 4) (eC (.int 1)))) (pYes (eOp addD (eVar 4) (eC (.int 2)))) (riE S0 t P i o5 o6) S=.ok (.lst (cutL (P.map PD) (some ((i+1:Nat):Int)) (some ((i+2:Nat):Int)))) S:=rfl;have e2:eqLS S (.lst (cutL (P.map PD) (some ((i+1:Nat):Int)) (some ((i+2:Nat):Int)))) (.lst [PD [40]])=some (.bl (decide (P[i+1]?=some [40]))):=this;show tB (eOp eqLS _ _) _ _=_;rw[tB,zA5 sl (show eLst (zA0 (eC (.str (PySem.Str.ofString "("))) aNil) (riE S0 t P i o5 o6) S=.ok (.lst [PD [40]]) S from rfl) e2];rfl
theorem zU3{t:D}{P rest hp:List (List Nat)}{i:Nat}{o5 o6:Option D}{hs:List D}{rq:List (Nat × List D)}(hd:zFa hp h)(e:P.drop i=hp++rest)(M:Mc S0 hs rq S)(hh:hs.length<1000000)(hr:rq.length<1000000):
  ∃S',riB (riE S0 t P i o5 o6) S=.nx (riE S0 t P (i+hp.length) (some h) o6) S'/\∃m,Mc S0 (hs++[h]) (rq++[(m,[])]) S':=by
 obtain⟨hn,hlo,h2,h1,hf,hl⟩:=hd;have e1:P[i+1]?=some [40]:=by have:=congrArg (·[1]?) e;simp only[uR]at this;rw[this,xN (by omega)];exact h1
 have lh:lowL S.length hs=true:=M.lo S0.length _ (xh _) M.hd;have M1:=M.setH (hs':=hs++[h]) (zIm lh (hlo _));generalize hS1:S.set S0.length (.lst (hs++[h]))=S1 at M1;have M2:=M1.newP;rw[xP]at M2;refine⟨_,?_,_,M2⟩;have t1:riT (riE S0 t P i o5 o6) S=.ok true S:=by rw[ri_t,xj e1]
 show sIf riT riH riF (riE S0 t P i o5 o6) S=_;refine zAl t1 ?_;have s5:sSet 5 (zA3 zCu (zA0 (eVar 1) (zA0 (eVar 4) aNil))) (riE S0 t P i o5 o6) S=.nx (riE S0 t P i (some h) o6) S:=by show sSet 5 _ _ _=_;rw[sSet,zA8 (zAk rfl (zAa rfl)) (hf P rest i S e)];rfl
 have t5:tB (eOp isD (eVar 5) (eC .non)) (riE S0 t P i (some h) o6) S=.ok false S:=by show tB _ _ _=_;rw[tB,zA5 (x:=h) (y:=.non) (z:=.bl (isN h)) (S:=S) (S1:=S) (S2:=S) rfl rfl rfl,zNx hn];rfl
 have s6:zAp (eMt "list" zAi (eVar 2) (zA0 (eVar 5) aNil)) (riE S0 t P i (some h) o6) S=.nx (riE S0 t P i (some h) o6) S1:=by show zAp _ _ _=_;rw[zAp,zCr (S:=S) rfl M.hd (zAa rfl) (zI7 M.hd hh),hS1];rfl
 have pt:(S1++[D.lst []])[S0.length+2]?=some (.lst (rq.map λx:Nat × List D=>D.ref x.1)):=by rw[xN (zDa M1.pt)];exact M1.pt
 have s7:zAp (eMt "list" zAi (eVar 3) (zA0 (eNew (eLst aNil)) aNil)) (riE S0 t P i (some h) o6) S1=.nx (riE S0 t P i (some h) o6) ((S1++[D.lst []]).set (S0.length+2) (.lst ((rq.map λx:Nat × List D=>D.ref x.1)++[D.ref S1.length]))):=by show zAp _ _ _=_;rw[zAp,zCr (S:=S1) (S1:=S1++[D.lst []]) rfl M1.pt (zAa rfl) (zI7 pt (by simpa using hr))];rfl
 have fin:∀T,sSet 4 (eOp addD (eVar 4) riL) (riE S0 t P i (some h) o6) T=.nx (riE S0 t P (i+hp.length) (some h) o6) T:=λT=>by
  show sSet 4 _ _ _=_;rw[sSet,zA5 (x:=.int (i:Int)) (y:=.int (hp.length:Int)) (z:=.int ((i+hp.length:Nat):Int)) (S:=T) (S1:=T) (S2:=T) rfl (hl _ T rfl) rfl];rfl
 exact zA1 s5 (zA1 (zA7 t5 rfl) (zA1 s6 (zA1 s7 (fin _))))
theorem zMo{t:D}{P:List (List Nat)}{i j m:Nat}{w:List Nat}{o5 o6:Option D}{hs2:List D}{rs:List (Nat × List D)}{qs2:List (List D)}(hP:P.length<=100000)(hl:zI9 w d)(e0:P[i]?=some w)(e1:P[i+1]?≠some [40])(M:Mc S0 hs (rs++[(m,q)]) S)
  (c:Cl CloM P (i+1) hs (rs.map (·.2)++[q++[d]]) j hs2 qs2) (hj:j=P.length\/(P[j]?=some [32]/\hs2≠[])) (wq:Wq (rs.map (·.2)++[q]) i):
  ∃S' rq',riB (riE S0 t P i o5 o6) S=.nx (riE S0 t P (if j=P.length then j else j+1) o5 (some d)) S'/\Mc S0 hs2 rq' S'/\qs2=rq'.map (·.2)/\Wq qs2 j:=by
 obtain⟨hf,hn,hlo⟩:=hl;have hi:i<P.length:=(xC.mp e0).1;have am:=M.at_ (m,q) (xI _ (.head _));have lq:lowL S.length q=true:=M.lo m _ (vB (M.far (m,q) (xI _ (.head _))).1) am;have wl:q.length<=i:=wq q (by simp);have M1:=M.setP (q':=q++[d]) (zIm lq (hlo _));generalize hS1:S.set m (.lst (q++[d]))=S1 at M1;have ee:(rs++[(m,q++[d])]).map (·.2)=rs.map (·.2)++[q++[d]]:=by simp
 obtain⟨S',rq',eb,M',e2,l,w2⟩:=yCr hP (rq:=rs++[(m,q++[d])]) (by rw[ee];exact c) M1 (by
  rw[ee];intro x hx;rcases xH.mp hx with hx|hx
  ·have:=wq x (vf _ hx);omega
  ·rw[xx.mp hx,xk,xG];omega) hj
 refine⟨S',rq',?_,M',e2,w2⟩;have t1:riT (riE S0 t P i o5 o6) S=.ok false S:=by rw[ri_t,xi e1]
 show sIf riT riH riF (riE S0 t P i o5 o6) S=_;refine zA7 t1 ?_;have ix:eOp ixD (eVar 1) (eVar 4) (riE S0 t P i o5 o6) S=.ok (PD w) S:=zA5 (x:=PL P) (y:=.int (i:Int)) (S:=S) (S1:=S) (S2:=S) rfl rfl (atN (k:=i) rfl (by rw[xO,e0];rfl));have s6:sSet 6 (zA3 zCt (zA0 (eOp ixD (eVar 1) (eVar 4)) aNil)) (riE S0 t P i o5 o6) S=.nx (riE S0 t P i o5 (some d)) S:=by show sSet 6 _ _ _=_;rw[sSet,zA8 (zAa ix) (hf S)];rfl
 have t5:tB (eOp isD (eVar 6) (eC .non)) (riE S0 t P i o5 (some d)) S=.ok false S:=by show tB _ _ _=_;rw[tB,zA5 (x:=d) (y:=.non) (z:=.bl (isN d)) (S:=S) (S1:=S) (S2:=S) rfl rfl rfl,zNx hn];rfl
 have pt:=M.pt;rw[xP]at pt;have o6':eOp ixD (eVar 3) (eUn negD (eC (.int 1))) (riE S0 t P i o5 (some d)) S=.ok (.ref m) S:=zA5 (x:=.ref (S0.length+2)) (y:=.int (-1)) (S:=S) (S1:=S) (S2:=S) rfl rfl (zNn (l:=rs.map λx:Nat × List D=>D.ref x.1) pt);have s7:zAp (eMt "list" zAi (eOp ixD (eVar 3) (eUn negD (eC (.int 1)))) (zA0 (eVar 6) aNil)) (riE S0 t P i o5 (some d)) S=.nx (riE S0 t P i o5 (some d)) S1:=by show zAp _ _ _=_;rw[zAp,zCr o6' am (zAa rfl) (zI7 am (show q.length<1000000 by omega)),hS1];rfl
 generalize hk:(if j=P.length then j else j+1)=k at eb;have s8:sSet 4 (zA3 zBf (zA0 (eVar 1) (zA0 (eOp addD (eVar 4) (eC (.int 1))) (zA0 (eVar 2) (zA0 (eVar 3) aNil))))) (riE S0 t P i o5 (some d)) S1=.nx (riE S0 t P k o5 (some d)) S':=by show sSet 4 _ _ _=_;have ar:zA0 (eVar 1) (zA0 (eOp addD (eVar 4) (eC (.int 1))) (zA0 (eVar 2) (zA0 (eVar 3) aNil))) (riE S0 t P i o5 (some d)) S1=.ok [PL P,.int ((i+1:Nat):Int),.ref S0.length,.ref (S0.length+2)] S1:=rfl;rw[sSet,zA8 ar eb];rfl
 have t9:tB (eOp isD (eVar 4) (eC .non)) (riE S0 t P k o5 (some d)) S'=.ok false S':=rfl;exact zA1 s6 (zA1 (zA7 t5 rfl) (zA1 s7 (zA1 s8 (zA7 t9 rfl))))
theorem split1{rq:List (Nat × List D)}(h:rs++[q]=rq.map (·.2)):∃r m,rq=r++[(m,q)]/\r.map (·.2)=rs:=by obtain⟨a,b,e1,e2,e3⟩:=List.map_eq_append_iff.mp h.symm;obtain⟨x,t,g1,g2,g3⟩:=List.map_eq_cons_iff.mp e3;have t0:t=[]:=u3.mp g3;refine⟨a,x.1,?_,e2⟩;rw[e1,g1,t0,<- g2]
theorem zU2{t:D}{P:List (List Nat)}(hP:P.length<=100000){i:Nat}{hs:List D}{qs:List (List D)}(r:Rd zI9 zFa CloM P i hs qs R):∀(rq:List (Nat × List D)) (S:Store) (o5 o6:Option D),qs=rq.map (·.2)->Mc S0 hs rq S->Wq qs i->hs.length<=i->qs.length<=i+1->
  ∃n p5 p6 S' m,zAr riC riB n (riE S0 t P i o5 o6) S=.nx (riE S0 t P P.length p5 p6) S'/\Mc S0 [] [(m,[R])] S':=by
 induction r with
 | @head i hp rest h R hs qs hd e r ih=>
  intro rq S o5 o6 eq M w lh lq;have hi:i+2<=P.length:=by
   have:=congrArg List.length e;have h2:=hd.2.2.1;rw[v5,xk]at this
   omega
  have lr:rq.length=qs.length:=by rw[eq,xp]
  obtain⟨S1,b1,m,M1⟩:=zU3 (t:=t) (o5:=o5) (o6:=o6) hd e M (by omega) (by omega);have h2:=hd.2.2.1;obtain⟨n,p5,p6,S',m',k,M'⟩:=ih (rq++[(m,[])]) S1 (some h) o6 (by simp[eq]) M1 (λq hq=>by
   rcases xH.mp hq with hq|hq
   ·have:=w q hq;omega
   ·rw[xx.mp hq];exact vN _) (by rw[xk,xG];omega) (by rw[xk,xG];omega)
  refine⟨n+1,p5,p6,S',m',?_,M'⟩;rw[zAr,ri_c (by omega),Rs.then_ok,xc rfl,b1];exact k
 | @last i w d R hs qs q hl e n c=>
  intro rq S o5 o6 eq M wq lh lq;obtain⟨r,m,rfl,er⟩:=split1 eq;have hi:i<P.length:=(xC.mp e).1;obtain⟨S1,rq',b1,M1,e2,_⟩:=zMo (t:=t) (o5:=o5) (o6:=o6) hP hl e n M (by rw[er];exact c) (.inl rfl) (by rw[er];exact wq);obtain⟨r2,m2,e3,e4⟩:=split1 (rs:=[]) (q:=[R]) (rq:=rq') (by simpa using e2);have e5:r2=[]:=u3.mp e4;rw[e3,e5]at M1;refine⟨2,o5,some d,S1,m2,?_,M1⟩;rw[zAr,ri_c hi,Rs.then_ok,xc rfl,b1,xc rfl];show zAr riC riB 1 _ _=_;rw[zAr,ri_e];rfl
 | @leaf i j w d R hs hs2 qs qs2 q hl e n c hn b r ih=>
  intro rq S o5 o6 eq M wq lh lq;obtain⟨r,m,rfl,er⟩:=split1 eq;have hi:i<P.length:=(xC.mp e).1;have hj:j<P.length:=(xC.mp b).1;have le:=c.le;obtain⟨S1,rq',b1,M1,e2,w2⟩:=zMo (t:=t) (o5:=o5) (o6:=o6) hP hl e n M (by rw[er];exact c) (.inr ⟨b,hn⟩) (by rw[er];exact wq);rw[xf (by omega)]at b1;have lc:qs2.length<=qs.length+1:=by
   have:∀{i j:Nat}{hs hs2:List D}{qs qs2:List (List D)},Cl CloM P i hs qs j hs2 qs2->qs2.length<=qs.length:=λt=>by
    induction t with
    | nil=>exact xh _
    | step _ _ _ ih=>simp only[xk,xG]at ih ⊢;omega
   have:=this c;rw[xk,xG]at this;exact this
  rw[xk,xG]at lq;obtain⟨k,p5,p6,S',m',z,M'⟩:=ih rq' S1 o5 (some d) e2 M1 (λx hx=>Nat.le_succ_of_le (w2 x hx)) (by omega) (by omega);refine⟨k+1,p5,p6,S',m',?_,M'⟩;rw[zAr,ri_c hi,Rs.then_ok,xc rfl,b1];exact z
theorem Mc.pre_app{rq:List (Nat × List D)}(M:Mc S0 hs rq S):∃T,S=S0++T:=by
 refine⟨S.drop S0.length,?_⟩;have l:=zDa M.hd;have:S.take S0.length=S0:=by
  refine uI λk=>?_
  by_cases h:k<S0.length
  ·rw[v3 h];exact M.pre k h
  ·rw[x6 (by rw[vg];omega),x6 (by omega)]
 rw[<- this,vg,ug (by omega),List.take_append_drop]
theorem mc0(S:Store):Mc S [] [(S.length+1,[])] (S++[.lst [],.lst [],.lst [.ref (S.length+1)]]):=by
 have g:∀k,(S++[D.lst [],.lst [],.lst [.ref (S.length+1)]])[S.length+k]?=[D.lst [],.lst [],.lst [.ref (S.length+1)]][k]?:=λk=>by
  rw[xM (uz _ _),Nat.add_sub_cancel_left]
 refine⟨λk hk=>xN hk,g 0,g 2,λx hx=>?_,λx hx=>?_,by simp,λk d hk e=>?_⟩
 ·rw[xx.mp hx];exact g 1
 ·rw[xx.mp hx];exact⟨uv _,by show S.length+1≠S.length+2;omega⟩
 ·obtain⟨j,rfl⟩:∃j,k=S.length+j:=⟨k-S.length,by omega⟩
  rw[g]at e;have hj:j<3:=(xC.mp e).1;rcases(show j=0\/j=1\/j=2 by omega)with rfl|rfl|rfl
  ·cases e;rfl
  ·cases e;rfl
  ·cases e;show lowL _ [D.ref (S.length+1)]=true;refine zBi λd hd=>?_
   rw[xx.mp hd];exact xj (by rw[xk];show S.length+1<S.length+3;omega)
theorem zKv{t:Str}{P:List (List Nat)}(h:RT zI9 zFa CloM P R)(alt:Alt P)(ht:ls t=P.flatten)(hl:t.length<=30000)(hP:P.length<=100000):zDn [.str t] S=.ok R S:=by
 have lo:R.low S.length=true:=by
  cases h with
  | leaf h=>exact h.2.2 _
  | node _ _ hc=>exact hc.2.2.1 _
 obtain⟨n,p5,p6,S',m,e,M⟩:=zU2 (S0:=S) (t:=.str t) hP (zXs h) [(S.length+1,[])] (S++[.lst [],.lst [],.lst [.ref (S.length+1)]]) none none rfl (mc0 S) (by intro q hq;rw[xx.mp hq];exact xh _) (xh _) (xh _);obtain⟨T,rfl⟩:=M.pre_app;have ew:zC2 riC riB (riE S (.str t) P 0 none none) (S++[.lst [],.lst [],.lst [.ref (S.length+1)]])=.nx (riE S (.str t) P P.length p5 p6) (S++T):=by rw[zDg (n:=n) (by rw[e];intro z;cases z),e]
 refine zD4 (T:=T) rfl ?_ lo;have pk:zBl [.str t] S=.ok (PL P) S:=zMx alt ht hl;have s1:sSet 1 (zA3 zBl (zA0 (eVar 0) aNil)) [some (.str t),none,none,none,none,none,none] S=.nx [some (.str t),some (PL P),none,none,none,none,none] S:=by rw[sSet,zA8 (zAa rfl) pk];rfl
 have s2:sSet 2 (eNew (eLst aNil)) [some (.str t),some (PL P),none,none,none,none,none] S=.nx [some (.str t),some (PL P),some (.ref S.length),none,none,none,none] (S++[.lst []]):=rfl;have s3:sSet 3 (eNew (eLst (zA0 (eNew (eLst aNil)) aNil))) [some (.str t),some (PL P),some (.ref S.length),none,none,none,none] (S++[.lst []])=.nx [some (.str t),some (PL P),some (.ref S.length),some (.ref (S.length+2)),none,none,none] (S++[.lst [],.lst [],.lst [.ref (S.length+1)]]):=by show SR.nx [some (.str t),some (PL P),some (.ref S.length),some (.ref ((S++[D.lst []])++[D.lst []]).length),none,none,none] ((S++[D.lst []])++[D.lst []]++[D.lst [.ref (S++[D.lst []]).length]])=_;simp
 have s4:sSet 4 (eC (.int 0)) [some (.str t),some (PL P),some (.ref S.length),some (.ref (S.length+2)),none,none,none] (S++[.lst [],.lst [],.lst [.ref (S.length+1)]])=.nx (riE S (.str t) P 0 none none) (S++[.lst [],.lst [],.lst [.ref (S.length+1)]]):=rfl;have am:=M.at_ (m,[R]) (.head _);have i3:eOp ixD (eVar 3) (eC (.int 0)) (riE S (.str t) P P.length p5 p6) (S++T)=.ok (.ref m) (S++T):=zA5 (x:=.ref (S.length+2)) (y:=.int 0) (S:=S++T) (S1:=S++T) (S2:=S++T) rfl rfl (by
  unfold ixD;rw[zB4 M.pt];exact atN (k:=0) rfl rfl)
 have i4:eOp ixD (eOp ixD (eVar 3) (eC (.int 0))) (eC (.int 0)) (riE S (.str t) P P.length p5 p6) (S++T)=.ok R (S++T):=zA5 (S:=S++T) (S1:=S++T) (S2:=S++T) i3 rfl (by
  unfold ixD;rw[zB4 am];exact atN (k:=0) rfl rfl)
 have tn:truth (S++T) (.ref S.length)=some false:=by unfold truth;rw[zB4 M.hd];rfl
 have tt:tAnd (tTru (eOp ixD (eVar 3) (eC (.int 0)))) (tNot (tTru (eVar 2))) (riE S (.str t) P P.length p5 p6) (S++T)=.ok true (S++T):=by show tAnd _ _ _ _=_;rw[tAnd,tTru,i3,Rs.bind_ok,zEh am (by simp),zDk,Rs.bind_ok,xc rfl,tNot,tTru,show eVar 2 (riE S (.str t) P P.length p5 p6) (S++T)=.ok (.ref S.length) (S++T)from rfl,Rs.bind_ok,tn];rfl
 have fin:sRet (eIf (tAnd (tTru (eOp ixD (eVar 3) (eC (.int 0)))) (tNot (tTru (eVar 2)))) (eOp ixD (eOp ixD (eVar 3) (eC (.int 0))) (eC (.int 0))) (eC .non)) (riE S (.str t) P P.length p5 p6) (S++T)=.rt R (S++T):=by refine zAh ?_;rw[eIf,tt,Rs.bind_ok,xc rfl];exact i4
 rw[zKw];exact zA1 s1 (zA1 s2 (zA1 s3 (zA1 s4 (zA1 ew fin))))
theorem zGz:∀l:List Str,zCm (l.map D.str)=true
 | []=>rfl
 | a::l=>zGz l
theorem zJo:∀l:List Str,depL (l.map D.str)<=60
 | []=>by unfold depL;exact vN _
 | a::l=>by
  have:=zJo l;rw[xt];unfold depL D.dep;lia
theorem zEa{l:List Str}:okIn (.str w) (l.map D.str):=⟨rfl,zGz l,zJo l,λd hd=>by obtain⟨x,_,rfl⟩:=xE.mp hd;rfl⟩
theorem mem_strs{l:List Str}:D.str w∈l.map D.str <-> w∈l:=⟨λh=>by obtain⟨x,hx,e⟩:=xE.mp h;cases e;exact hx,λh=>xE.mpr ⟨w,h,rfl⟩⟩
theorem in_w{l:List Str}:inD S (.str w) (.tup (l.map D.str))=some (.bl (decide (w∈l))):=by show((if okIn (.str w) (l.map D.str)then some (decide (D.str w∈l.map D.str))else none).map D.bl)=_;rw[xc zEa,show decide (D.str w∈l.map D.str)=decide (w∈l)from vc.mpr mem_strs];rfl
theorem eqY_str :eqY S (.str a) (.str b)=some (.bl (decide (a=b))):=rfl
noncomputable abbrev pa1:TM:=tB (eOp inD (eVar 1) (eTup (zA0 (eC (.str (PySem.Str.ofString "cell"))) (zA0 (eC (.str (PySem.Str.ofString "name"))) aNil))))
noncomputable abbrev pa2:TM:=tB (eOp inD (eVar 1) (eTup (zA0 (eC (.str (PySem.Str.ofString "all"))) (zA0 (eC (.str (PySem.Str.ofString "any"))) (zA0 (eC (.str (PySem.Str.ofString "least"))) aNil)))))
theorem pa1_at :pa1 [a,some (.str w)] S=.ok (decide (w∈[so "cell",so "name"])) S:=zAt (zA5 (zA4 rfl) rfl (in_w (l:=[so "cell",so "name"])))
theorem pa2_at :pa2 [a,some (.str w)] S=.ok (decide (w∈[so "all",so "any",so "least"])) S:=zAt (zA5 (zA4 rfl) rfl (in_w (l:=[so "all",so "any",so "least"])))
theorem zY7{S:Store}{pc:List (List Nat)}{ps:List It}(h:Head d pc ps)(hp:∀p∈ps,p.d.low S.length=true):zBt [d] S=.ok (.tup (ps.map It.d)) S:=by
 have st:∀(w:String) (l:List D),sSet 1 (eOp ixD (eVar 0) (eC (.int 0))) [some (.tup (tx w::l)),none] S=.nx [some (.tup (tx w::l)),some (tx w)] S:=λw l=>by simp_arith [xW]
 have y1:∀(w:String) (l:List D),so w∈[so "cell",so "name"]->zBt [.tup (tx w::l)] S=.ok (.tup []) S:=λw l hw=>by
  refine zAc rfl (zA1 (st w l) (zAq (zAl ?_ rfl))) rfl;exact pa1_at.trans (by rw[xj hw])
 have n1:∀(w:String) (l:List D) (q:SR),so w ∉ [so "cell",so "name"]->(sSeq (sIf pa2 (sRet (eOp ixD (eVar 0) (eUn negD (eC (.int 1))))) zAd) (sRet (eIf (tB (eOp eqY (eVar 1) (eC (.str (PySem.Str.ofString "then"))))) (eSl slD (eVar 0) (pYes (eC (.int 1))) pNo) (eSl slD (eVar 0) (pYes (eUn negD (eC (.int 1)))) pNo)))) [some (.tup (tx w::l)),some (tx w)] S=q->zFp [some (.tup (tx w::l)),none] S=q:=λw l q hw e=>by
  refine zA1 (st w l) (zA1 (zA7 ?_ rfl) e);exact pa1_at.trans (by rw[xi hw])
 have y2:∀(w:String) (l:List D) (x:D),so w ∉ [so "cell",so "name"]->so w∈[so "all",so "any",so "least"]->atL (tx w::l) (-1)=some x->x.low S.length=true->zBt [.tup (tx w::l)] S=.ok x S:=λw l x h1 h2 e lo=>by
  refine zAc rfl (n1 w l _ h1 (zAq (zAl ?_ ?_))) lo
  ·exact pa2_at.trans (by rw[xj h2])
  ·simp_arith [negD,e]
 have n2:∀(w:String) (l:List D) (x:List D),so w ∉ [so "cell",so "name"]->so w ∉ [so "all",so "any",so "least"]->(if so w=so "then" then cutL (tx w::l) (some 1) none else cutL (tx w::l) (some (-1)) none)=x->(D.tup x).low S.length=true->zBt [.tup (tx w::l)] S=.ok (.tup x) S:=λw l x h1 h2 e lo=>by
  refine zAc rfl (n1 w l _ h1 (zA1 (zA7 ?_ rfl) ?_)) lo
  ·exact pa2_at.trans (by rw[xi h2])
  ·have t:tB (eOp eqY (eVar 1) (eC (.str (PySem.Str.ofString "then")))) [some (.tup (tx w::l)),some (tx w)] S=.ok (decide (so w=so "then")) S:=zAt (zA5 (zA4 rfl) rfl eqY_str);by_cases c:so w=so "then"
   ·rw[xc c]at e;rw[xj c]at t;rw[sRet,eIf,t,Rs.bind_ok,xc rfl];simp_arith [slD,e]
   ·rw[xf c]at e;rw[xi c]at t;rw[sRet,eIf,t,Rs.bind_ok,xf (by decide)];simp_arith [slD,negD,e]
 have lps:(D.tup (ps.map It.d)).low S.length=true:=zBi λd hd=>by obtain⟨p,hp',rfl⟩:=xE.mp hd;exact hp p hp'
 rcases h with⟨x,y,_,_,rfl,_,rfl⟩|⟨s,_,rfl,_,rfl⟩|⟨x,y,r,_,_,rfl,_,rfl⟩|⟨a,b,u,v,r,_,_,rfl,_,rfl⟩|⟨q,r,rfl,_,rfl⟩|⟨w,hw,rfl,_,_⟩|⟨j,_,rfl,_,_⟩
 ·exact y1 "cell" _ (by decide +kernel)
 ·exact y1 "name" _ (by decide +kernel)
 ·exact n2 "at" _ _ (by decide +kernel) (by decide +kernel) (by rw[xf (by decide +kernel)];rfl) lps
 ·exact n2 "by" _ _ (by decide +kernel) (by decide +kernel) (by rw[xf (by decide +kernel)];rfl) lps
 ·exact n2 "then" _ _ (by decide +kernel) (by decide +kernel) (by rw[xc rfl];rfl) lps
 ·rcases hw with rfl|rfl
  ·exact y2 "all" _ _ (by decide +kernel) (by decide +kernel) rfl lps
  ·exact y2 "any" _ _ (by decide +kernel) (by decide +kernel) rfl lps
 ·exact y2 "least" _ _ (by decide +kernel) (by decide +kernel) rfl lps
theorem zY1{S:Store}{n:Nat}{l:List D}{k:Nat}(h:S[n]?=some (.lst l))(hk:k<l.length):putD S (.ref n) (.int (k:Nat)) v=some (S.set n (.lst (l.set k v))):=by simp only[putD,h];unfold ixN;rw[xc (by nofun),xc (by nofun)];rfl
theorem zZh{n:Nat}{k:Nat}(h:S[n]?=some (.lst l))(hv:l[k]?=some v):ixD S (.ref n) (.int (k:Nat))=some v:=by have e:look S (.ref n)=some (.lst l):=h;simp only[ixD,e];exact atN rfl hv
theorem zVe{n:Nat}{l:List Str}(h:S[n]?=some (.lst (l.map D.str))):zDj S (.str w) (.ref n)=some (.bl (!decide (w∈l))):=by
 have e:inO S (.str w) (.ref n)=some (decide (w∈l)):=by have e:look S (.ref n)=some (.lst (l.map D.str)):=h;simp only[inO,e];rw[xc zEa,show decide (D.str w∈l.map D.str)=decide (w∈l)from vc.mpr mem_strs]
 show(inO S (.str w) (.ref n)).map _=_;rw[e];rfl
theorem zQ4{l:List Str}{k:Nat}:(l.map D.str).set k (.str y)=(l.set k y).map D.str:=by rw[List.map_set]
noncomputable abbrev clE (h:D) (ds:List D):Env:=[some h,some (.tup ds),none]
noncomputable abbrev clT:TM:=tB (eOp inD (eOp ixD (eVar 0) (eC (.int 0))) (eTup (zA0 (eC (.str (PySem.Str.ofString "all"))) (zA0 (eC (.str (PySem.Str.ofString "any"))) aNil))))
theorem cl_t :clT (clE (.tup (.str w::l)) ds) S=.ok (decide (w∈[so "all",so "any"])) S:=
 zAt (zA5 (x:=.str w) (y:=.tup ([so "all",so "any"].map D.str)) (S:=S) (S1:=S) (S2:=S) (zA5 (x:=.tup (.str w::l)) (y:=.int 0) (S:=S) (S1:=S) (S2:=S) rfl rfl (atN (k:=0) rfl rfl)) rfl in_w)
theorem zNg(h:∀d∈ds,∀n,d.low n=true)(n:Nat):lowL n ds=true:=zBi λd hd=>h d hd n
theorem zWw(hw:w="all"\/w="any"){ds:List D}(lo:∀d∈ds,∀n,d.low n=true)(hl:ds.length<1000):CloM (.tup [tx w]) ds (.tup [tx w,.tup ds]):=by
 have lw:∀n,(D.tup [tx w,.tup ds]).low n=true:=λn=>by
  show((tx w).low n && ((D.tup ds).low n && true))=true;rw[show(D.tup ds).low n=lowL n ds from rfl,zNg lo n];rfl
 refine⟨λS=>zAc rfl ?_ (lw _),by simp,lw,hl⟩;have t1:clT (clE (.tup [tx w]) ds) S=.ok true S:=by
  rw[cl_t,xj];rcases hw with rfl|rfl
  ·exact .head _
  ·exact .tail _ (.head _)
 exact zAq (zAl t1 (zAh (zA5 (x:=.tup [tx w]) (y:=.tup [.tup ds]) (S:=S) (S1:=S) (S2:=S) rfl rfl rfl)))
noncomputable abbrev clL:TM:=tB (eOp eqY (eOp ixD (eVar 0) (eC (.int 0))) (eC (.str (PySem.Str.ofString "least"))))
noncomputable abbrev clN:TM:=tB (eOp eqY (eOp ixD (eVar 0) (eC (.int 0))) (eC (.str (PySem.Str.ofString "then"))))
theorem cl_w :tB (eOp eqY (eOp ixD (eVar 0) (eC (.int 0))) (eC (.str v))) (clE (.tup (.str w::l)) ds) S=.ok (decide (w=v)) S:=
 zAt (zA5 (x:=.str w) (y:=.str v) (S:=S) (S1:=S) (S2:=S) (zA5 (x:=.tup (.str w::l)) (y:=.int 0) (S:=S) (S1:=S) (S2:=S) rfl rfl (atN (k:=0) rfl rfl)) rfl eqY_str)
theorem zOv{k:Int}{ds:List D}(h1:k<=ds.length)(lo:∀d∈ds,∀n,d.low n=true)(hl:ds.length<1000):CloM (.tup [tx "least",.int k]) ds (.tup [tx "least",.int k,.tup ds]):=by
 have lw:∀n,(D.tup [tx "least",.int k,.tup ds]).low n=true:=λn=>by
  show((tx "least").low n && ((D.int k).low n && ((D.tup ds).low n && true)))=true;rw[show(D.tup ds).low n=lowL n ds from rfl,zNg lo n];rfl
 refine⟨λS=>zAc rfl ?_ (lw _),by simp,lw,hl⟩;have t1:clT (clE (.tup [tx "least",.int k]) ds) S=.ok false S:=by rw[cl_t,xi (by decide +kernel)]
 have t2:clL (clE (.tup [tx "least",.int k]) ds) S=.ok true S:=by show tB _ _ _=_;rw[cl_w,xj rfl]
 have ix:eOp ixD (eVar 0) (eC (.int 1)) (clE (.tup [tx "least",.int k]) ds) S=.ok (.int k) S:=zA5 (x:=.tup [tx "least",.int k]) (y:=.int 1) (S:=S) (S1:=S) (S2:=S) rfl rfl (atN (k:=1) rfl rfl);have t3:tB (eOp leD (eOp ixD (eVar 0) (eC (.int 1))) (eCB lenB (zA0 (eVar 1) aNil))) (clE (.tup [tx "least",.int k]) ds) S=.ok true S:=zAt (zA5 (x:=.int k) (y:=.int (ds.length:Int)) (S:=S) (S1:=S) (S2:=S) ix rfl (by
  show some (D.bl (decide (k<=(ds.length:Int))))=_;rw[xj h1]))
 refine zA1 (zA7 t1 rfl) (zAq (zAl t2 (zAh ?_)));show eIf _ _ _ (clE (.tup [tx "least",.int k]) ds) S=_;rw[eIf,t3,Rs.bind_ok,xc rfl];exact zA5 (x:=.tup [tx "least",.int k]) (y:=.tup [.tup ds]) (S:=S) (S1:=S) (S2:=S) rfl rfl rfl
theorem zGk{l ds:List D}(h1:so w ∉ [so "all",so "any"])(h2:so w≠so "least")(hd:ds.length=if so w=so "then" then 2 else 1)(hz:l.length<1000)(ll:∀d∈l,∀n,d.low n=true)(lo:∀d∈ds,∀n,d.low n=true):CloM (.tup (tx w::l)) ds (.tup (tx w::(l++ds))):=by
 have l2:ds.length<=2:=by rw[hd];split <;> omega
 have lw:∀n,(D.tup (tx w::(l++ds))).low n=true:=λn=>by
  show((tx w).low n && lowL n (l++ds))=true;rw[zNg (ds:=l++ds) (λd hd=>(xH.mp hd).elim (ll d) (lo d)) n];rfl
 refine⟨λS=>zAc rfl ?_ (lw _),by simp,lw,by omega⟩;have t1:clT (clE (.tup (tx w::l)) ds) S=.ok false S:=by rw[cl_t,xi h1]
 have t2:clL (clE (.tup (tx w::l)) ds) S=.ok false S:=by show tB _ _ _=_;rw[cl_w,xi h2]
 have s2:sSet 2 (eIf clN (eC (.int 2)) (eC (.int 1))) (clE (.tup (tx w::l)) ds) S=.nx [some (.tup (tx w::l)),some (.tup ds),some (.int (ds.length:Int))] S:=by
  have t3:clN (clE (.tup (tx w::l)) ds) S=.ok (decide (so w=so "then")) S:=cl_w;rw[sSet,eIf,t3,Rs.bind_ok,hd];by_cases c:so w=so "then"
  ·rw[xc (xj c),xc c];rfl
  ·rw[xf (by rw[xi c];decide),xf c];rfl
 have t4:tB (eOp eqI (eCB lenB (zA0 (eVar 1) aNil)) (eVar 2)) [some (.tup (tx w::l)),some (.tup ds),some (.int (ds.length:Int))] S=.ok true S:=zAt (zA5 (x:=.int (ds.length:Int)) (y:=.int (ds.length:Int)) (S:=S) (S1:=S) (S2:=S) rfl rfl (by
  show some (D.bl (decide ((ds.length:Int)=(ds.length:Int))))=_;rw[xj rfl]))
 refine zA1 (zA7 t1 rfl) (zA1 (zA7 t2 rfl) (zA1 s2 (zAh ?_)));rw[eIf,t4,Rs.bind_ok,xc rfl];refine zA5 (x:=.tup (tx w::l)) (y:=.tup ds) (S:=S) (S1:=S) (S2:=S) rfl rfl ?_;show(if tx w::l≠[]/\(tx w::l).length+ds.length<=most then some (D.tup (tx w::l++ds))else none)=_;rw[xc ⟨by simp,xq (show(tx w::l).length+ds.length<=1010 by rw[xv];omega) (by decide)⟩];rfl
end
open TX (nm dg tn)
section
open Classical
noncomputable abbrev sgn (c:Nat):Str:=⟨#[c]⟩
theorem str_mk(w:Str):mk (ls w)=w:=TX.str_ext (zBh _)
theorem zB2(l:List Nat):(mk l).length=l.length:=by rw[zBj,zBh]
theorem zXe(n:Int):tn n=mk (nm n):=TX.str_ext (by rw[TX.ls_tn,zBh])
noncomputable def figs (l:List Nat):List Nat:=if l.head?=some 45 then l.drop 1 else l
def isN(f:Nat)(l:List Nat):Prop:=(1<=(figs l).length/\(figs l).length<=f)/\(∀c∈figs l,48<=c/\c<=57)/\(l=[48]\/(figs l).head?≠some 48)
theorem figs_sub{l:List Nat}:(figs l).length<=l.length/\∀c∈figs l,c∈l:=by
 unfold figs;split
 ·exact⟨by rw[v5];lia,λc hc=>List.mem_of_mem_drop hc⟩
 ·exact⟨xh _,λc hc=>hc⟩
theorem yB2(l:List Nat):PySem.Txt.startswith (mk l) (PySem.Str.ofString "-")=decide (l.head?=some 45):=by
 cases l with
 | nil=>
  unfold PySem.Txt.startswith;rw[zB2,xi (by decide)];rfl
 | cons a b=>
  unfold PySem.Txt.startswith;have h1:decide (0+(PySem.Str.ofString "-").length<=(mk (a::b)).length)=true:=xj (by rw[zB2];show 1<=_;simp);rw[h1,Bool.true_and];unfold PySem.Builtin.Str.subAt;have h2:(mk (a::b)).cps.extract 0 (0+(PySem.Str.ofString "-").length)=#[a]:=by apply Array.toList_inj.mp;rw[Array.toList_extract];show List.take (0+1-0) (List.drop 0 (ls (mk (a::b))))=[a];rw[zBh];rfl
  rw[h2];show(#[a] == (PySem.Str.ofString "-").cps)=_;rw[show(PySem.Str.ofString "-").cps=#[45]from rfl,vn];simp
theorem zHx{α:Type}{p:α->Bool}:∀l:List α,bools (l.map λx=>D.bl (p x))=some (l.map p)
 | []=>rfl
 | a::l=>by
  have:=zHx (p:=p) l;show(bools (l.map λx=>D.bl (p x))).map (p a::·)=_;rw[this];rfl
theorem zPn{α:Type}{p:α->Prop}[DecidablePred p](l:List α)[Decidable (∀x∈l,p x)]:allB S [.lst (l.map λx=>.bl (decide (p x)))]=some (.bl (decide (∀x∈l,p x))):=by show((bools (l.map λx=>D.bl (decide (p x)))).map λbs=>D.bl (bs.all id))=_;rw[zHx];show some (D.bl _)=_;congr 2;rw[vn,ve,decide_eq_true_iff];simp
theorem le_int{x y:Int}:leD S (.int x) (.int y)=some (.bl (decide (x<=y))):=rfl
theorem zNj{l:List Nat}(h:l.length<=100000):lenB S [.str (mk l)]=some (.int (l.length:Nat)):=by show(if(mk l).length<=most then some (D.int ((mk l).length:Nat))else none)=_;rw[zB2,xc (xq h (by decide))]
theorem zX0{l:List Nat}(h:∀c∈l,c<128):(mk l).cps.all (·<128)=true:=by rw[<- Array.all_toList,ve];intro c hc;exact xj (h c (by rw[show(mk l).cps.toList=l from zBh l]at hc;exact hc))
theorem zTh{l:List Nat}(h:∀c∈l,c<128):zDw S (.str (mk l))=some ⟨l.map λc=>.str (sgn c),[]⟩:=by show(if(mk l).cps.all (·<128)then some (Walk.mk (chars (mk l)) [])else none)=_;rw[xc (zX0 h)];unfold chars;rw[show(mk l).cps.toList=l from zBh l]
theorem zVx{e:EM}{l:List Nat}(he:e env S=.ok (.str (mk l)) S)(h:∀c∈l,c<128):iVal e env S=.ok ⟨l.map λc=>.str (sgn c),[]⟩ S:=by rw[iVal,he,Rs.bind_ok,zTh h];rfl
theorem yBy{c:Nat}{l:List Nat}(h:(c::l).length<=100000):ixD S (.str (mk (c::l))) (.int 0)=some (.str (sgn c)):=by show(if(mk (c::l)).length<=most then(atL (mk (c::l)).cps.toList 0).map λc=>D.str ⟨#[c]⟩else none)=_;rw[zB2,xc (xq h (by decide)),show(mk (c::l)).cps.toList=c::l from zBh _];unfold atL ixN;rw[xc (by decide),xc (by rw[xv];lia)];rfl
theorem le_lo{x y:Nat}:leD S (.str (sgn y)) (.str (sgn x))=some (.bl (decide (y<=x))):=by show some (D.bl (!decide ([x]<[y])))=_;rw[<- decide_not];congr 2;apply vc.mpr;rw[List.cons_lt_cons_iff];simp
theorem zOq{α:Type}(l:List α){a:Int}(h:0<=a):cutL l (some a) none=l.drop a.toNat:=by
 unfold cutL sIx;dsimp only;rw[xf (by nofun)];rcases Nat.le_total a.toNat l.length with c|c
 ·rw[ug c,uK (by rw[v5];lia)]
 ·rw[Nat.min_eq_right c,List.drop_of_length_le (xh _),List.drop_of_length_le c,List.take_nil]
theorem zXo{l:List Nat}{a:Int}(h:l.length<=100000)(ha:0<=a):slS S (.str (mk l)) (some a) none=some (.str (mk (l.drop a.toNat))):=by show(if _ then some (D.str ⟨(cutL (ls (mk l)) (some a) none).toArray⟩)else none)=_;rw[xc ⟨(λv e=>by cases e;exact ha),(λv e=>by cases e),by rw[zB2];exact h⟩,zBh,zOq _ ha];rfl
theorem zT7{S:Store}{l:List Nat}{a b i:Nat}(hx:x=sgn a)(hy:y=sgn b)(hl:l.length<=100000)(ha:∀c∈l,c<128)(hi:env[i]?=some (some (.str (mk l)))):
  eCB allB (zA0 (zAv 1 [] (iVal (eVar i)) (gName 0) tYes (zBg leD leD (eC (.str x)) (eVar 0) (eC (.str y)))) aNil) env S=.ok (.bl (decide (∀c∈l,a<=c/\c<=b))) S:=by
 subst hx hy;have c:(zAv 1 [] (iVal (eVar i)) (gName 0) tYes (zBg leD leD (eC (.str (sgn a))) (eVar 0) (eC (.str (sgn b))))) env S=.ok (.lst (l.map λc=>.bl (decide (a<=c/\c<=b)))) S:=by
  refine zCw (xs:=l) (h:=λc=>.str (sgn c)) (gd:=[]) (λenv=>∃o,env=[o]) (zVx (zA4 hi) ha) zB1 ⟨none,rfl⟩ (xq hl (by decide)) ?_;rintro x hx env ⟨o,rfl⟩;refine⟨[some (.str (sgn x))],rfl,⟨_,rfl⟩,?_⟩;have l1:=le_lo (S:=S) (x:=x) (y:=a);have l2:=le_lo (S:=S) (x:=b) (y:=x);by_cases q:a<=x
  ·rw[xj q]at l1;rw[show decide (a<=x/\x<=b)=decide (x<=b)from vc.mpr ⟨λz=>z.2,λz=>⟨q,z⟩⟩];simp_arith [zBg,l1,l2]
  ·rw[xi q]at l1;rw[xi λz=>q z.1];simp_arith [zBg,l1]
 rw[eCB,zAa c,Rs.bind_ok,zPn (S:=S) (p:=λc:Nat=>a<=c/\c<=b) l];rfl
theorem zSn{l:List Nat}{f:Nat}(hl:l.length<=100000)(ha:∀c∈l,c<128):zB7 [.str (mk l),.int (f:Nat)] S=.ok (.bl (decide (isN f l))) S:=by
 refine zAc rfl ?_ rfl;have fl:(figs l).length<=100000:=xq figs_sub.1 hl;have fa:∀c∈figs l,c<128:=λc hc=>ha c (figs_sub.2 c hc)
 have x1:sSet 2 (eIf (tTru (eMt "str" startM (eVar 0) (zA0 (eC (.str (PySem.Str.ofString "-"))) aNil))) (eSl slS (eVar 0) (pYes (eC (.int 1))) pNo) (eVar 0)) [some (.str (mk l)),some (.int (f:Nat)),none] S=.nx [some (.str (mk l)),some (.int (f:Nat)),some (.str (mk (figs l)))] S:=by
  have m:eMt "str" startM (eVar 0) (zA0 (eC (.str (PySem.Str.ofString "-"))) aNil) [some (.str (mk l)),some (.int (f:Nat)),none] S=.ok (.bl (decide (l.head?=some 45))) S:=zCq rfl (zAa rfl) (by show some (D.bl (PySem.Txt.startswith (mk l) (PySem.Str.ofString "-")),S)=_;rw[yB2]);rw[sSet,eIf,tTru,m,Rs.bind_ok];by_cases c:l.head?=some 45
  ·rw[xj c];have sl:=zXo (S:=S) hl (show(0:Int)<=1 by decide);rw[show l.drop (1:Int).toNat=figs l from(xc c).symm]at sl;simp_arith [tru,sl]
  ·rw[xi c,show figs l=l from xf c];simp_arith [tru]
 refine zA1 x1 ?_;have t1:tB (zBg leD leD (eC (.int 1)) (eCB lenB (zA0 (eVar 2) aNil)) (eVar 1)) [some (.str (mk l)),some (.int (f:Nat)),some (.str (mk (figs l)))] S=.ok (decide (1<=(figs l).length/\(figs l).length<=f)) S:=by
  have ln:=zNj (S:=S) fl;by_cases c1:1<=(figs l).length
  ·have l1:leD S (.int 1) (.int ((figs l).length:Nat))=some (.bl true):=by rw[le_int,xj (by nofun)]
   have l2:leD S (.int ((figs l).length:Nat)) (.int (f:Nat))=some (.bl (decide (1<=(figs l).length/\(figs l).length<=f))):=by rw[le_int];congr 2;exact vc.mpr (by nofun)
   simp_arith [zBg,ln,l1,l2]
  ·have l1:leD S (.int 1) (.int ((figs l).length:Nat))=some (.bl false):=by rw[le_int,xi (by nofun)]
   rw[xi λz=>c1 z.1];simp_arith [zBg,ln,l1]
 by_cases c1:1<=(figs l).length/\(figs l).length<=f
 ·rw[xj c1]at t1;refine zA1 (e:=[some (.str (mk l)),some (.int (f:Nat)),some (.str (mk (figs l)))]) (S1:=S) (zA7 (by rw[tNot,t1];rfl) rfl) ?_;have t2:tTru (eCB allB (zA0 (zAv 1 [] (iVal (eVar 2)) (gName 0) tYes (zBg leD leD (eC (.str (PySem.Str.ofString "0"))) (eVar 0) (eC (.str (PySem.Str.ofString "9"))))) aNil)) [some (.str (mk l)),some (.int (f:Nat)),some (.str (mk (figs l)))] S=.ok (decide (∀c∈figs l,48<=c/\c<=57)) S:=by
   rw[tTru,zT7 (i:=2) (x:=PySem.Str.ofString "0") (y:=PySem.Str.ofString "9") (env:=[some (.str (mk l)),some (.int (f:Nat)),some (.str (mk (figs l)))]) (a:=48) (b:=57) rfl rfl fl fa rfl];rfl
  by_cases c2:∀c∈figs l,48<=c/\c<=57
  ·rw[xj c2]at t2;refine zA1 (e:=[some (.str (mk l)),some (.int (f:Nat)),some (.str (mk (figs l)))]) (S1:=S) (zA7 (by rw[tNot,t2];rfl) rfl) ?_;have e0:eqY S (.str (mk l)) (.str (PySem.Str.ofString "0"))=some (.bl (decide (mk l=mk [48]))):=rfl;by_cases z:l=[48]
   ·rw[xj (by rw[z])]at e0;rw[xj ⟨c1,c2,.inl z⟩];simp_arith [e0]
   ·rw[xi (λe=>z (mk_inj e))]at e0;cases ef:figs l with
    | nil=>rw[ef]at c1;exact absurd c1.1 (by simp)
    | cons cc r=>
     rw[ef]at fl;have ix:=yBy (S:=S) fl;have ne:neK S (.str (sgn cc)) (.str (PySem.Str.ofString "0"))=some (.bl (!decide (sgn cc=mk [48]))):=rfl;have fin:decide (isN f l)=!decide (sgn cc=mk [48]):=by
      rw[<- decide_not];apply vc.mpr;unfold isN;rw[ef,List.head?_cons];rw[ef]at c1 c2;exact⟨λq e=>by
       have e1:[cc]=[48]:=mk_inj e;rcases q.2.2 with q|q
       ·exact z q
       ·exact q (by rw[(ud e1).1]),λq=>⟨c1,c2,.inr λe=>q (by rw[xB e];rfl)⟩⟩
     rw[fin];simp_arith [e0,ix,ne]
  ·rw[xi c2]at t2;rw[xi λz=>c2 z.2.1];exact zAq (zAl (by rw[tNot,t2];rfl) rfl)
 ·rw[xi c1]at t1;rw[xi λz=>c1 z.1];exact zAq (zAl (by rw[tNot,t1];rfl) rfl)
theorem zW8(n:Int):figs (nm n)=dg n.natAbs:=by
 unfold figs nm;by_cases c:n<0
 ·rw[xc c];rfl
 ·rw[xf c,xf];obtain⟨a,r,e,_⟩:=TX.dg_head n.natAbs;rw[e];intro h;have:=TX.dg_all n.natAbs a (by rw[e];exact .head _);have:=xB h;lia
theorem zSs{n:Int}{f:Nat}(hf:1<=f)(h:n.natAbs<10 ^ f):isN f (nm n):=by
 refine⟨?_,?_,?_⟩ <;> rw[zW8]
 ·exact TX.dg_len f _ hf h
 ·exact TX.dg_all _
 ·obtain⟨a,r,e,h1,h2⟩:=TX.dg_head n.natAbs;by_cases z:n.natAbs=0
  ·left
   have:n=0:=by nofun
   subst this;rfl
  ·right
   rw[e];exact λq=>h2 z (xB q)
theorem zH8(n:Int):∀c∈nm n,c<128:=λc hc=>by have:=TX.nm_sign hc;lia
theorem zH7{n:Int}{f:Nat}(hf:1<=f)(h:n.natAbs<10 ^ f):1<=(nm n).length/\(nm n).length<=f+1:=by
 have:=TX.dg_len f _ hf h;unfold nm;split
 ·rw[xv];lia
 ·lia
theorem zSt{n:Int}(h:n.natAbs<10 ^ 18):intS S [.str (mk (nm n))]=some (.int n):=by
 have r:PySem.intText? (mk (nm n))=some n:=by rw[<- zXe];exact TX.nm_reads (Nat.lt_trans h (by decide))
 have l:=zH7 (f:=18) (by decide) h;show(match PySem.intText? (mk (nm n))with|some m=>if(mk (nm n)).length<=640 then some (D.int m)else none|none=>none)=_;rw[r];show(if(mk (nm n)).length<=640 then some (D.int n)else none)=_;rw[xc (by rw[zB2];lia)]
theorem tt_b{e:EM}(h:e env S=.ok (.bl b) S1):tTru e env S=.ok b S1:=by rw[tTru,h];rfl
def isNm(l:List Nat):Prop:=(1<=l.length/\l.length<=8)/\mk l ∉ w5/\∀c∈l,97<=c/\c<=122
theorem in_k{l:List Str}:inD S (.str w) (.ktup (l.map D.str))=some (.bl (decide (w∈l))):=by show((if okIn (.str w) (l.map D.str)then some (decide (D.str w∈l.map D.str))else none).map D.bl)=_;rw[xc zEa,show decide (D.str w∈l.map D.str)=decide (w∈l)from vc.mpr mem_strs];rfl
theorem zNc{l:List Nat}(hl:l.length<=100000)(ha:∀c∈l,c<128):zEp [.str (mk l)] S=.ok (.bl (decide (isNm l))) S:=by
 refine zAc rfl ?_ rfl;have t1:tB (zBg leD leD (eC (.int 1)) (eCB lenB (zA0 (eVar 0) aNil)) (eC (.int 8))) [some (.str (mk l))] S=.ok (decide (1<=l.length/\l.length<=8)) S:=by
  have ln:=zNj (S:=S) hl;by_cases c1:1<=l.length
  ·have l1:leD S (.int 1) (.int (l.length:Nat))=some (.bl true):=by rw[le_int,xj (by nofun)]
   have l2:leD S (.int (l.length:Nat)) (.int 8)=some (.bl (decide (1<=l.length/\l.length<=8))):=by rw[le_int];congr 2;exact vc.mpr (by nofun)
   simp_arith [zBg,ln,l1,l2]
  ·have l1:leD S (.int 1) (.int (l.length:Nat))=some (.bl false):=by rw[le_int,xi (by nofun)]
   rw[xi λz=>c1 z.1];simp_arith [zBg,ln,l1]
 have t2:tB (eOp inD (eVar 0) (eC (.ktup [(.str (PySem.Str.ofString "all")),(.str (PySem.Str.ofString "any")),(.str (PySem.Str.ofString "at")),(.str (PySem.Str.ofString "by")),(.str (PySem.Str.ofString "then"))]))) [some (.str (mk l))] S=.ok (decide (mk l∈w5)) S:=zAt (zA5 (zA4 rfl) rfl (in_k (l:=w5)));have tt:∀q,tOr (tNot (tB (zBg leD leD (eC (.int 1)) (eCB lenB (zA0 (eVar 0) aNil)) (eC (.int 8))))) (tB (eOp inD (eVar 0) (eC (.ktup [(.str (PySem.Str.ofString "all")),(.str (PySem.Str.ofString "any")),(.str (PySem.Str.ofString "at")),(.str (PySem.Str.ofString "by")),(.str (PySem.Str.ofString "then"))])))) [some (.str (mk l))] S=.ok q S <-> q=decide (¬ (1<=l.length/\l.length<=8)\/mk l∈w5):=λq=>by
  rw[tOr,tNot,t1,Rs.bind_ok,Rs.bind_ok];by_cases c1:1<=l.length/\l.length<=8
  ·rw[xj c1,xf (by decide),t2,show decide (¬ (1<=l.length/\l.length<=8)\/mk l∈w5)=decide (mk l∈w5)from vc.mpr ⟨λz=>z.resolve_left λk=>k c1,.inr⟩];exact⟨λz=>by cases z;rfl,λz=>by rw[z]⟩
  ·rw[xi c1,Bool.not_false,xc rfl,xj (.inl c1)];exact⟨λz=>by cases z;rfl,λz=>by rw[z]⟩
 by_cases c1:¬ (1<=l.length/\l.length<=8)\/mk l∈w5
 ·rw[xi λz:isNm l=>c1.elim (λk=>k z.1) z.2.1];exact zAq (zAl ((tt true).mpr (xj c1).symm) rfl)
 ·refine zA1 (zA7 ((tt false).mpr (xi c1).symm) rfl) (zAh ?_);have:=zT7 (S:=S) (i:=0) (x:=PySem.Str.ofString "a") (y:=PySem.Str.ofString "z") (env:=[some (.str (mk l))]) (a:=97) (b:=122) rfl rfl hl ha rfl;refine this.trans ?_;congr 2;exact vc.mpr ⟨λz=>⟨Classical.not_not.mp λk=>c1 (.inl k),λk=>c1 (.inr k),z⟩,λz=>z.2.2⟩
theorem zKu{ns:List Int}(h0:ns≠[]):PySem.Txt.split (mk (jn 44 (ns.map nm))) (sgn 44)=ns.map λn=>mk (nm n):=by
 match ns,h0 with
 | n::r,_=>
 refine TX.split_of (x:=mk (jn 44 ((n::r).map nm))) (c:=44) (p:=mk (nm n)) (ps:=r.map λn=>mk (nm n)) ?_ λq hq=>?_
 ·rw[zBh,<- xt (f:=λn=>mk (nm n)),xU];congr 1
 ·rw[<- xt (f:=λn=>mk (nm n))]at hq;obtain⟨a,_,rfl⟩:=xE.mp hq;rw[zBh];intro m;have:=TX.nm_sign m;lia
theorem zH3{ns:List Int}{f:Nat}(hf:1<=f)(f9:f<=17)(h:∀n∈ns,n.natAbs<10 ^ f)(h0:ns≠[])(hl:ns.length<=100)(hz:(jn 44 (ns.map nm)).length<=100000):zAn [.str (mk (jn 44 (ns.map nm))),.int (ns.length:Nat),.int (f:Nat)] S=.ok (.tup (ns.map .int)) S:=by
 obtain⟨z,hz'⟩:∃z,z=mk (jn 44 (ns.map nm)):=⟨_,rfl⟩
 have sp:=zKu h0;have zl:z.length<=100000:=by rw[hz',zB2];exact hz
 rw[<- hz']at sp ⊢;have lt:∀n∈ns,n.natAbs<10 ^ 18:=λn hn=>Nat.lt_trans (h n hn) (Nat.pow_lt_pow_right (by decide) (by nofun))
 have nl:∀n∈ns,(nm n).length<=100000:=λn hn=>by have:=zH7 (f:=18) (by decide) (lt n hn);lia
 refine zAc rfl ?_ ?_
 ·have sm:splitM S (.str z) [.str (sgn 44)]=some (.lst ((ns.map λn=>mk (nm n)).map D.str),S):=by
   show(if 0<(sgn 44).length/\z.length<=100000/\(PySem.Txt.split z (sgn 44)).length<=most then some (D.lst ((PySem.Txt.split z (sgn 44)).map D.str),S)else none)=_;rw[sp,xc ⟨by show 0<1;decide,zl,by rw[xp];exact xq hl (by decide)⟩]
  have sv:eMt "str" splitM (eVar 0) (zA0 (eC (.str (PySem.Str.ofString ","))) aNil) [some (.str z),some (.int (ns.length:Nat)),some (.int (f:Nat)),none] S=.ok (.lst ((ns.map λn=>mk (nm n)).map D.str)) S:=zCq rfl (zAa rfl) sm;rw[xU]at sv;refine zA1 (e:=[some (.str z),some (.int (ns.length:Nat)),some (.int (f:Nat)),some (.lst (ns.map λn=>.str (mk (nm n))))]) (S1:=S) (show sSet 3 _ [some (.str z),some (.int (ns.length:Nat)),some (.int (f:Nat)),none] S=_ by rw[sSet,sv];rfl) ?_;have c1:(zAv 1 [2] (iVal (eVar 3)) (gName 0) tYes (zA3 zB7 (zA0 (eVar 0) (zA0 (eVar 1) aNil)))) [some (.str z),some (.int (ns.length:Nat)),some (.int (f:Nat)),some (.lst (ns.map λn=>.str (mk (nm n))))] S=.ok (.lst (ns.map λn=>.bl (decide (isN f (nm n))))) S:=by refine zCw (xs:=ns) (h:=λn=>.str (mk (nm n))) (gd:=[]) (λenv=>∃o,env=[o,some (.int (f:Nat))]) (zK4 rfl) zB1 ⟨none,rfl⟩ (xq hl (by decide)) ?_;rintro x hx env ⟨o,rfl⟩;exact⟨[some (.str (mk (nm x))),some (.int (f:Nat))],rfl,⟨_,rfl⟩,by simp_arith [zSn (S:=S) (f:=f) (nl x hx) (zH8 x)]⟩
  have al:=zPn (S:=S) (p:=λn:Int=>isN f (nm n)) ns;rw[xj (λn hn=>zSs hf (h n hn))]at al;have ln:lenB S [.lst (ns.map λn=>.str (mk (nm n)))]=some (.int (ns.length:Nat)):=by show some (D.int ((ns.map λn=>D.str (mk (nm n))).length:Int))=_;rw[xp]
  have n2:neK S (.int (ns.length:Nat)) (.int (ns.length:Nat))=some (.bl false):=by show some (D.bl (!decide ((ns.length:Int)=ns.length)))=_;rw[xj rfl];rfl
  have t1:tB (eOp neK (eCB lenB (zA0 (eVar 3) aNil)) (eVar 1)) [some (.str z),some (.int (ns.length:Nat)),some (.int (f:Nat)),some (.lst (ns.map λn=>.str (mk (nm n))))] S=.ok false S:=zAt (zA5 (x:=.int (ns.length:Nat)) (y:=.int (ns.length:Nat)) (by rw[eCB,zAa (zA4 rfl),Rs.bind_ok,ln];rfl) rfl n2);have t2:tTru (eCB allB (zA0 (zAv 1 [2] (iVal (eVar 3)) (gName 0) tYes (zA3 zB7 (zA0 (eVar 0) (zA0 (eVar 1) aNil)))) aNil)) [some (.str z),some (.int (ns.length:Nat)),some (.int (f:Nat)),some (.lst (ns.map λn=>.str (mk (nm n))))] S=.ok true S:=by rw[tTru,eCB,zAa c1,Rs.bind_ok,al];rfl
  refine zA1 (e:=[some (.str z),some (.int (ns.length:Nat)),some (.int (f:Nat)),some (.lst (ns.map λn=>.str (mk (nm n))))]) (S1:=S) (zA7 (by rw[tOr,t1,Rs.bind_ok,xf (by decide),tNot,t2];rfl) rfl) ?_;have c2:(zAv 1 [] (iVal (eVar 3)) (gName 0) tYes (eCB intS (zA0 (eVar 0) aNil))) [some (.str z),some (.int (ns.length:Nat)),some (.int (f:Nat)),some (.lst (ns.map λn=>.str (mk (nm n))))] S=.ok (.lst (ns.map λy=>.int y)) S:=by refine zCw (xs:=ns) (h:=λn=>.str (mk (nm n))) (gd:=[]) (λenv=>∃o,env=[o]) (zK4 rfl) zB1 ⟨none,rfl⟩ (xq hl (by decide)) ?_;rintro x hx env ⟨o,rfl⟩;exact⟨[some (.str (mk (nm x)))],rfl,⟨_,rfl⟩,by simp_arith [zSt (S:=S) (lt x hx)]⟩
  rw[sRet,eCB,zAa c2,Rs.bind_ok];rfl
 ·exact zBi λd hd=>by obtain⟨n,_,rfl⟩:=xE.mp hd;rfl
theorem zX8(x y:Int):w2 x y=jn 44 ([x,y].map nm):=by simp[w2,jn]
theorem zTj(a b u v:Int):w4 a b u v=jn 44 ([a,b,u,v].map nm):=by simp[w4,jn]
theorem Bx.lt{x:Int}(h:Bx x):x.natAbs<10 ^ 4:=Nat.lt_succ_of_le h
theorem Bx.len{x:Int}(h:Bx x):1<=(nm x).length/\(nm x).length<=5:=zH7 (by decide) h.lt
theorem zFb{x y:Int}(hx:Bx x)(hy:Bx y):(w2 x y).length<=11:=by have:=hx.len;have:=hy.len;unfold w2;rw[xk,xv];lia
theorem zJg{a b u v:Int}(ha:Bx a)(hb:Bx b)(hu:Bx u)(hv:Bx v):(w4 a b u v).length<=23:=by have:=ha.len;have:=hb.len;have:=hu.len;have:=hv.len;unfold w4;simp only[xk,xv];lia
theorem zM6{x y:Int}(hx:Bx x)(hy:Bx y):zAn [.str (mk (w2 x y)),.int 2,.int 4] S=.ok (.tup [.int x,.int y]) S:=by
 have l:=zFb hx hy;rw[zX8]at l ⊢;refine zH3 (S:=S) (ns:=[x,y]) (f:=4) (by decide) (by decide) (λn hn=>?_) (by simp) (by simp) (by nofun);rcases xr.mp hn with rfl|hn
 ·exact hx.lt
 ·rw[xx.mp hn];exact hy.lt
theorem zTi{a b u v:Int}(ha:Bx a)(hb:Bx b)(hu:Bx u)(hv:Bx v):zAn [.str (mk (w4 a b u v)),.int 4,.int 4] S=.ok (.tup [.int a,.int b,.int u,.int v]) S:=by
 have l:=zJg ha hb hu hv;rw[zTj]at l ⊢;refine zH3 (S:=S) (ns:=[a,b,u,v]) (f:=4) (by decide) (by decide) (λn hn=>?_) (by simp) (by simp) (by nofun);simp only[xr,xJ,xK]at hn;rcases hn with rfl|rfl|rfl|rfl
 ·exact ha.lt
 ·exact hb.lt
 ·exact hu.lt
 ·exact hv.lt
theorem zNl(h:Nmo s):zI9 (ls s) (.tup [tx "name",.str s]):=by have l1:=h.len;rw[zBj]at l1;refine⟨λS=>zAc rfl ?_ rfl,by simp,λ_=>rfl⟩;have nm:=zNc (S:=S) (l:=ls s) (by nofun) (λc hc=>by have:=h.let_ c hc;lia);have p0:=h.pos;rw[zBj]at p0;rw[xj (show isNm (ls s)from⟨⟨p0,l1⟩,by rw[str_mk];exact h.no5,h.let_⟩)]at nm;refine zAq (zAl (tt_b (zA8 (zAa (zA4 rfl)) nm)) ?_);refine zAh ?_;show eTup _ [some (.str (mk (ls s))),none] S=_;rw[str_mk];rfl
theorem zNm{x y:Int}(hx:Bx x)(hy:Bx y):zI9 (w2 x y) (.tup [tx "cell",.int x,.int y]):=by
 have l1:=zFb hx hy;refine⟨λS=>zAc rfl ?_ rfl,by simp,λ_=>rfl⟩;have m44:44∈w2 x y:=by simp[w2]
 have nm:=zNc (S:=S) (l:=w2 x y) (by nofun) (λc hc=>by
  unfold w2 at hc;rcases xH.mp hc with z|z
  ·exact zH8 _ c z
  ·rcases xr.mp z with rfl|z
   ·decide
   ·exact zH8 _ c z)
 rw[xi (λz:isNm (w2 x y)=>by have:=z.2.2 44 m44;lia)]at nm;refine zA1 (zA7 (tt_b (zA8 (zAa (zA4 rfl)) nm)) rfl) ?_;refine zA1 (e:=[some (.str (mk (w2 x y))),some (.tup [.int x,.int y])]) (S1:=S) ?_ rfl;rw[sSet,zA8 (zAk (zA4 (d:=.str (mk (w2 x y))) rfl) rfl) (zM6 hx hy)];rfl
theorem zJw(h:env[5]?=some (some (.tup (.str w::l)))):riL env S=.ok (.int ((if w∈[so "at",so "by"]then 4 else 2:Nat):Int)) S:=by
 have t:tB (eOp inD (eOp ixD (eVar 5) (eC (.int 0))) (eTup (zA0 (eC (.str (PySem.Str.ofString "at"))) (zA0 (eC (.str (PySem.Str.ofString "by"))) aNil)))) env S=.ok (decide (w∈[so "at",so "by"])) S:=
  zAt (zA5 (x:=.str w) (y:=.tup ([so "at",so "by"].map D.str)) (zA5 (x:=.tup (.str w::l)) (y:=.int 0) (zA4 h) rfl (atN (k:=0) rfl rfl)) rfl in_w)
 show eIf _ _ _ env S=_;rw[eIf,t,Rs.bind_ok];by_cases c:w∈[so "at",so "by"]
 ·rw[xc (xj c),xc c];rfl
 ·rw[xf (by rw[xi c];decide),xf c];rfl
noncomputable abbrev hA:TM:=tB (eOp inD (eVar 2) (eTup (zA0 (eC (.str (PySem.Str.ofString "all"))) (zA0 (eC (.str (PySem.Str.ofString "any"))) (zA0 (eC (.str (PySem.Str.ofString "then"))) aNil)))))
noncomputable abbrev hN:TM:=tTru (zA3 zB7 (zA0 (eVar 2) (zA0 (eC (.int 2)) aNil)))
noncomputable abbrev hS:TM:=tOr (tB (eOp zDj (eVar 2) (eTup (zA0 (eC (.str (PySem.Str.ofString "at"))) (zA0 (eC (.str (PySem.Str.ofString "by"))) aNil))))) (tB (eOp neLS (eSl slD (eVar 0) (pYes (eOp addD (eVar 1) (eC (.int 3)))) (pYes (eOp addD (eVar 1) (eC (.int 4))))) (eLst (zA0 (eC (.str (PySem.Str.ofString " "))) aNil))))
noncomputable abbrev hT:TM:=tB (eOp eqY (eVar 2) (eC (.str (PySem.Str.ofString "at"))))
noncomputable abbrev haE (P:List (List Nat)) (i:Nat) (w:Str) (o:Option D):Env:=[some (PL P),some (.int (i:Int)),some (.str w),o]
section
variable {P rest:List (List Nat)}{i:Nat}{w:Str}{o:Option D}{S:Store}
theorem hA_at:hA (haE P i w o) S=.ok (decide (w∈[so "all",so "any",so "then"])) S:=zAt (zA5 (zA4 rfl) rfl (in_w (l:=[so "all",so "any",so "then"])))
theorem zW1{l:List Nat}(hl:l.length<=100000)(ha:∀c∈l,c<128):hN (haE P i (mk l) o) S=.ok (decide (isN 2 l)) S:=tt_b (zA8 (zAk (zA4 rfl) (zAa rfl)) (zSn (f:=2) hl ha))
theorem zK5{p:List Nat}(h:P[i]?=some p):sSet 2 (eOp ixD (eVar 0) (eVar 1)) [some (PL P),some (.int (i:Int)),none,none] S=.nx (haE P i (mk p) none) S:=by have ix:eOp ixD (eVar 0) (eVar 1) [some (PL P),some (.int (i:Int)),none,none] S=.ok (PD p) S:=zA5 (x:=PL P) (y:=.int (i:Int)) (S:=S) (S1:=S) (S2:=S) rfl rfl (atN (k:=i) rfl (by rw[xO,h];rfl));rw[sSet,ix];rfl
theorem zCx{hp:List (List Nat)}(e:P.drop i=hp++rest){k:Nat}{p:List Nat}(h:hp[k]?=some p):P[i+k]?=some p:=by have:=congrArg (·[k]?) e;simp only[uR]at this;rw[this,xN (xC.mp h).1,h]
theorem zSv(hx:so x∈[so "all",so "any",so "then"])(hn:so x ∉ [so "at",so "by"]):zFa [ls (so x),[40]] (.tup [tx x]):=by
 refine⟨by simp,λ_=>rfl,xh _,rfl,λP rest i S e=>?_,λenv S h=>by rw[zJw h,xf hn];rfl⟩;have p0:P[i]?=some (ls (so x)):=zCx (k:=0) e rfl;refine zAc rfl (zA1 (zK5 p0) (zAq (zAl ?_ (zAh ?_)))) rfl
 ·exact hA_at.trans (by rw[str_mk,xj hx])
 ·show eTup _ (haE P i (mk (ls (so x))) none) S=_;rw[str_mk];rfl
theorem yBs{n:Int}{l:List Str}(h:∀s∈l,∀c∈(ls s).head?,97<=c)(h0:∀s∈l,ls s≠[]):mk (nm n) ∉ l:=λm=>by
 have a:=h _ m;have b:=h0 _ m;rw[zBh]at a b;cases e:nm n with
 | nil=>exact b e
 | cons c r=>
  rw[e]at a;have:=a c rfl;have:=zH8 n c (by rw[e];exact .head _);have q:=TX.nm_sign (n:=n) (c:=c) (by rw[e];exact .head _);lia
theorem zLd{k:Int}(h1:1<=k)(h9:k<=99):zFa [nm k,[40]] (.tup [tx "least",.int k]):=by
 have h99:k.natAbs<10 ^ 2:=by have:(10:Nat) ^ 2=100:=rfl;lia
 refine⟨by simp,λ_=>rfl,xh _,rfl,λP rest i S e=>?_,λenv S h=>by rw[zJw h,xf (by decide +kernel)];rfl⟩;have p0:P[i]?=some (nm k):=zCx (k:=0) e rfl;have nl:=zH7 (f:=2) (by decide) h99;have iv:=zSt (S:=S) (n:=k) (Nat.lt_trans h99 (by decide));have i1:eCB intS (zA0 (eVar 2) aNil) (haE P i (mk (nm k)) none) S=.ok (.int k) S:=by rw[eCB,zAa (zA4 rfl),Rs.bind_ok,iv];rfl
 refine zAc rfl (zA1 (zK5 p0) (zA1 (zA7 ?_ rfl) (zAq (zAl ?_ (zAh ?_))))) rfl
 ·exact hA_at.trans (by rw[xi (yBs (by decide +kernel) (by decide +kernel))])
 ·exact(zW1 (by nofun) (zH8 k)).trans (by rw[xj (zSs (by decide) h99)])
 ·have t:tB (eOp geD (eCB intS (zA0 (eVar 2) aNil)) (eC (.int 1))) (haE P i (mk (nm k)) none) S=.ok true S:=zAt (zA5 i1 rfl (by show some (D.bl (decide (1<=k)))=_;rw[xj h1]));show eIf _ _ _ (haE P i (mk (nm k)) none) S=_;rw[eIf,t,Rs.bind_ok,xc rfl,eTup,zAk (d:=tx "least") rfl (zAa i1)];rfl
theorem zZn{l:List Nat}(e3:P[i+3]?=some [32])(hw:w∈[so "at",so "by"]):hS (haE P i w o) S=.ok false S:=by
 have t1:tB (eOp zDj (eVar 2) (eTup (zA0 (eC (.str (PySem.Str.ofString "at"))) (zA0 (eC (.str (PySem.Str.ofString "by"))) aNil)))) (haE P i w o) S=.ok false S:=by refine zAt (zA5 (x:=.str w) (y:=.tup ([so "at",so "by"].map D.str)) rfl rfl ?_);show((if okIn (.str w) ([so "at",so "by"].map D.str)then some (decide (D.str w∈[so "at",so "by"].map D.str))else none).map λb=>D.bl (!b))=_;rw[xc zEa,xj (mem_strs.mpr hw)];rfl
 have sl:eSl slD (eVar 0) (pYes (eOp addD (eVar 1) (eC (.int 3)))) (pYes (eOp addD (eVar 1) (eC (.int 4)))) (haE P i w o) S=.ok (.lst [PD [32]]) S:=by show Rs.ok (D.lst (cutL (P.map PD) (some ((i+3:Nat):Int)) (some ((i+4:Nat):Int)))) S=_;rw[cut1 _ _ _ rfl,xO,e3];rfl
 have t2:tB (eOp neLS (eSl slD (eVar 0) (pYes (eOp addD (eVar 1) (eC (.int 3)))) (pYes (eOp addD (eVar 1) (eC (.int 4))))) (eLst (zA0 (eC (.str (PySem.Str.ofString " "))) aNil))) (haE P i w o) S=.ok false S:=by
  refine zAt (zA5 sl (y:=.lst [PD [32]]) rfl ?_);have e2:eqLO S (.lst [PD [32]]) (.lst [PD [32]])=some true:=by show(match strsOf ([mk [32]].map D.str),strsOf ([mk [32]].map D.str)with|some a,some b=>some (decide (a=b))|_,_=>none)=_;rw[zBr];show some (decide ([mk [32]]=[mk [32]]))=_;rw[xj rfl]
  unfold neLS;rw[e2,xc (show lenL S (.lst [PD [32]]) (.lst [PD [32]])=true from rfl)];rfl
 show tOr _ _ _ _=_;rw[tOr,t1,Rs.bind_ok,xf (by decide),t2]
theorem zPk{l:List Nat}{m:Int}(e2:P[i+2]?=some l)(hm:(if w=so "at" then(2:Int)else 4)=m)(hr:zAn [.str (mk l),.int m,.int 4] S=.ok d S):sSet 3 (zA3 zAn (zA0 (eOp ixD (eVar 0) (eOp addD (eVar 1) (eC (.int 2)))) (zA0 (eIf hT (eC (.int 2)) (eC (.int 4))) (zA0 (eC (.int 4)) aNil)))) (haE P i w none) S=.nx (haE P i w (some d)) S:=by
 have ix:eOp ixD (eVar 0) (eOp addD (eVar 1) (eC (.int 2))) (haE P i w none) S=.ok (PD l) S:=zA5 (x:=PL P) (y:=.int ((i+2:Nat):Int)) rfl rfl (atN (k:=i+2) rfl (by rw[xO,e2];rfl));have t:hT (haE P i w none) S=.ok (decide (w=so "at")) S:=zAt (zA5 (zA4 rfl) rfl eqY_str);have ie:eIf hT (eC (.int 2)) (eC (.int 4)) (haE P i w none) S=.ok (.int m) S:=by
  rw[eIf,t,Rs.bind_ok];by_cases c:w=so "at"
  ·rw[xc c]at hm;rw[xc (xj c),<- hm];rfl
  ·rw[xf c]at hm;rw[xf (by rw[xi c];decide),<- hm];rfl
 rw[sSet,zA8 (zAk ix (zAk ie (zAa rfl))) hr];rfl
theorem zRl{x y:Int}(hx:Bx x)(hy:Bx y):zFa [[97,116],[40],w2 x y,[32]] (.tup [tx "at",.int x,.int y]):=by
 refine⟨by simp,λ_=>rfl,by simp,rfl,λP rest i S e=>?_,λenv S h=>by rw[zJw h,xc (by decide +kernel)];rfl⟩;have p0:P[i]?=some [97,116]:=zCx (k:=0) e rfl;have p2:P[i+2]?=some (w2 x y):=zCx (k:=2) e rfl;have p3:P[i+3]?=some [32]:=zCx (k:=3) e rfl;have t:hT (haE P i (so "at") (some (.tup [.int x,.int y]))) S=.ok true S:=zAt (zA5 (zA4 rfl) rfl (eqY_str.trans (by rw[xj rfl])));refine zAc rfl (zA1 (zK5 p0) (zA1 (zA7 ?_ rfl) (zA1 (zA7 ?_ rfl) (zA1 (zA7 (zZn (l:=[]) p3 (by decide +kernel)) rfl) (zA1 (zPk (m:=2) p2 (by decide +kernel) (zM6 hx hy)) (zA1 (zA7 rfl rfl) (zAq (zAl t (zAh ?_))))))))) rfl
 ·exact hA_at.trans (by rw[xi (by decide +kernel)])
 ·exact(zW1 (by simp) (by decide)).trans (by rw[xi (λz=>by have:=z.2.1 97 (by simp[figs]);lia)])
 ·exact zA5 (x:=.tup [tx "at"]) (y:=.tup [.int x,.int y]) rfl rfl rfl
theorem zKq{a b u v:Int}(ha:Bx a)(hb:Bx b)(hu:Bx u)(hv:Bx v):zC4 [.tup [.int a,.int b,.int u,.int v]] S=.ok (.int (a*v-b*u)) S:=by
 unfold Bx at ha hb hu hv;have m1:mulD S (.int a) (.int v)=some (.int (a*v)):=zFh (by nofun) (by nofun);have m2:mulD S (.int b) (.int u)=some (.int (b*u)):=zFh (by nofun) (by nofun);refine zAc rfl ?_ rfl;have i0:∀x:D,ixD S (.tup [.int a,.int b,.int u,.int v]) (.int 0)=some (.int a):=λ_=>rfl
 exact zAh (zA5 (zA5 (x:=.int a) (y:=.int v) rfl rfl m1) (zA5 (x:=.int b) (y:=.int u) rfl rfl m2) rfl)
theorem zW0{a b u v:Int}(ha:Bx a)(hb:Bx b)(hu:Bx u)(hv:Bx v)(hd:a*v≠b*u):zFa [[98,121],[40],w4 a b u v,[32]] (.tup [tx "by",.tup [.int a,.int b,.int u,.int v]]):=by
 refine⟨by simp,λ_=>rfl,by simp,rfl,λP rest i S e=>?_,λenv S h=>by rw[zJw h,xc (by decide +kernel)];rfl⟩;have p0:P[i]?=some [98,121]:=zCx (k:=0) e rfl;have p2:P[i+2]?=some (w4 a b u v):=zCx (k:=2) e rfl;have p3:P[i+3]?=some [32]:=zCx (k:=3) e rfl;have t:hT (haE P i (so "by") (some (.tup [.int a,.int b,.int u,.int v]))) S=.ok false S:=zAt (zA5 (zA4 rfl) rfl (eqY_str.trans (by rw[xi (by decide +kernel)])));refine zAc rfl (zA1 (zK5 p0) (zA1 (zA7 ?_ rfl) (zA1 (zA7 ?_ rfl) (zA1 (zA7 (zZn (l:=[]) p3 (by decide +kernel)) rfl) (zA1 (zPk (m:=4) p2 (by decide +kernel) (zTi ha hb hu hv)) (zA1 (zA7 rfl rfl) (zA1 (zA7 t rfl) (zAh ?_)))))))) rfl
 ·exact hA_at.trans (by rw[xi (by decide +kernel)])
 ·exact(zW1 (by simp) (by decide)).trans (by rw[xi (λz=>by have:=z.2.1 98 (by simp[figs]);lia)])
 ·have t2:tB (eOp neK (zA3 zC4 (zA0 (eVar 3) aNil)) (eC (.int 0))) (haE P i (so "by") (some (.tup [.int a,.int b,.int u,.int v]))) S=.ok true S:=zAt (zA5 (zA8 (zAa (zA4 rfl)) (zKq ha hb hu hv)) rfl (by
   show some (D.bl (!decide (a*v-b*u=0)))=_;rw[xi (by nofun)];rfl))
  show eIf _ _ _ (haE P i (so "by") _) S=_;rw[eIf,t2,Rs.bind_ok,xc rfl];rfl
end
theorem zSf:∀{ps:List It},ps≠[]->(∀p∈ps,RT zI9 zFa CloM p.pc p.d)->RTs zI9 zFa CloM (jb (ps.map It.pc)) (ps.map It.d)
 | [p],_,h=>.one (h p (.head _))
 | p::q::r,_,h=>.cons (h p (.head _)) (zSf (ps:=q::r) (by simp) λx hx=>h x (.tail _ hx))
theorem Ru.rt:∀{n:Nat}{t:It},Ru n t->RT zI9 zFa CloM t.pc t.d
 | n+1,t,h=>by
  obtain⟨ps,hd,hp,_⟩:=h;have lo:∀d∈ps.map It.d,∀n,d.low n=true:=λd hd n=>by
   obtain⟨p,hp',rfl⟩:=xE.mp hd;exact(hp p hp').low
  have rts:=λhn:ps≠[]=>zSf hn λp hp'=>(hp p hp').rt
  rcases hd with⟨x,y,hx,hy,e1,e2,_⟩|⟨s,hs,e1,e2,_⟩|⟨x,y,r,hx,hy,e1,e2,e3⟩|⟨a,b,u,v,r,hb,hd,e1,e2,e3⟩|⟨q,r,e1,e2,e3⟩|⟨w,hw,e1,e2,hn,hl⟩|⟨k,hk,e1,e2,hn,hl⟩ <;> rw[e1,e2]
  ·exact .leaf (zNm hx hy)
  ·exact .leaf (zNl hs)
  ·refine .node (zRl hx hy) (rts (by rw[e3];simp)) ?_;rw[e3];exact zGk (w:="at") (l:=[.int x,.int y]) (ds:=[r.d]) (by decide +kernel) (by decide +kernel) (by rw[xf (by decide +kernel)];rfl) (by simp) (λd hd n=>by simp only[xr,xJ,xK]at hd;rcases hd with rfl|rfl <;> rfl) (by rw[e3]at lo;exact lo)
  ·refine .node (zW0 hb.1 hb.2.1 hb.2.2.1 hb.2.2.2 hd) (rts (by rw[e3];simp)) ?_;rw[e3];exact zGk (w:="by") (l:=[.tup [.int a,.int b,.int u,.int v]]) (ds:=[r.d]) (by decide +kernel) (by decide +kernel) (by rw[xf (by decide +kernel)];rfl) (by simp) (λd hd n=>by rw[xx.mp hd];rfl) (by rw[e3]at lo;exact lo)
  ·refine .node (zSv (x:="then") (by decide +kernel) (by decide +kernel)) (rts (by rw[e3];simp)) ?_;rw[e3];exact zGk (w:="then") (l:=[]) (ds:=[q.d,r.d]) (by decide +kernel) (by decide +kernel) (by rw[xc rfl];rfl) (by simp) (λd hd=>nomatch hd) (by rw[e3]at lo;exact lo)
  ·refine .node (zSv (x:=w) (by rcases hw with rfl|rfl <;> decide +kernel) (by rcases hw with rfl|rfl <;> decide +kernel)) (rts hn) (zWw hw lo (by rw[xp];lia))
  ·refine .node (zLd hk.1 (by nofun)) (rts hn) (zOv (by rw[xp];exact hk.2) lo (by rw[xp];lia))
theorem zFq{s:List Nat}{r:List (List Nat)}(h:Sg s)(a:Alt r):Alt (s::r):=by
 cases r with
 | nil=>exact .inl h
 | cons q r=>exact⟨.inl h,a⟩
theorem zKm{w s:List Nat}{r:List (List Nat)}(h:Wd w)(hs:Sg s)(a:Alt (s::r)):Alt (w::s::r):=⟨.inr ⟨h,hs⟩,a⟩
def AltR(p:List (List Nat)):Prop:=∀rest:List (List Nat),(rest=[]\/∃s r,rest=s::r/\Sg s)->Alt rest->Alt (p++rest)
theorem zI8{w:List Nat}(h:Wd w):AltR [w]:=λrest hr a=>by
 rcases hr with rfl|⟨s,r,rfl,hs⟩
 ·exact .inr h
 ·exact zKm h hs a
theorem zPl:∀{ps:List It},(∀p∈ps,AltR p.pc)->AltR (jb (ps.map It.pc))
 | [],_=>λrest _ a=>a
 | [p],h=>h p (.head _)
 | p::q::r,h=>λrest hr a=>by
  have ih:=zPl (ps:=q::r) (λx hx=>h x (.tail _ hx)) rest hr a;show Alt ((p.pc++([32]::jb ((q::r).map It.pc)))++rest);rw[vW];exact h p (.head _) _ (.inr ⟨[32],_,rfl,.inr (.inr rfl)⟩) (zFq (.inr (.inr rfl)) ih)
theorem zPm{w:List Nat}{ps:List It}(h:Wd w)(k:AltR (jb (ps.map It.pc))):AltR (node [w,[40]] ps):=λrest hr a=>by
 have:=k ([41]::rest) (.inr ⟨_,_,rfl,.inr (.inl rfl)⟩) (zFq (.inr (.inl rfl)) a);have e:node [w,[40]] ps++rest=w::[40]::(jb (ps.map It.pc)++[41]::rest):=by simp[node]
 rw[e];exact zKm h (.inl rfl) (zFq (.inl rfl) this)
theorem zT6{w v:List Nat}{ps:List It}(h:Wd w)(hv:Wd v)(k:AltR (jb (ps.map It.pc))):AltR (node [w,[40],v,[32]] ps):=λrest hr a=>by
 have:=k ([41]::rest) (.inr ⟨_,_,rfl,.inr (.inl rfl)⟩) (zFq (.inr (.inl rfl)) a);have e:node [w,[40],v,[32]] ps++rest=w::[40]::v::[32]::(jb (ps.map It.pc)++[41]::rest):=by simp[node]
 rw[e];exact zKm h (.inl rfl) (zFq (.inl rfl) (zKm hv (.inr (.inr rfl)) (zFq (.inr (.inr rfl)) this)))
theorem zFr(n:Int):Wd (nm n):=by refine⟨λe=>?_,λk hk=>by have:=TX.nm_sign hk;lia⟩;obtain⟨c,r,e2,_⟩:=TX.dg_head n.natAbs;unfold nm at e;rw[e2]at e;split at e <;> simp at e
theorem zGs{p q:List Nat}(hp:Wd p)(hq:Wd q):Wd (p++44::q):=⟨by simp,λk hk=>by
 rcases xH.mp hk with z|z
 ·exact hp.2 k z
 ·rcases xr.mp z with rfl|z
  ·decide
  ·exact hq.2 k z⟩
theorem zTg(h:Nmo s):Wd (ls s):=⟨λe=>by have:=h.pos;rw[zBj,e]at this;simp at this,λk hk=>by have:=h.let_ k hk;lia⟩
theorem Ru.altr:∀{n:Nat}{t:It},Ru n t->AltR t.pc
 | n+1,t,h=>by
  obtain⟨ps,hd,hp,_⟩:=h;have jk:=zPl λp hp'=>(hp p hp').altr
  rcases hd with⟨x,y,hx,hy,e1,e2,_⟩|⟨s,hs,e1,e2,_⟩|⟨x,y,r,hx,hy,e1,e2,e3⟩|⟨a,b,u,v,r,hb,hd,e1,e2,e3⟩|⟨q,r,e1,e2,e3⟩|⟨w,hw,e1,e2,hn,hl⟩|⟨k,hk,e1,e2,hn,hl⟩ <;> rw[e2]
  ·exact zI8 (zGs (zFr x) (zFr y))
  ·exact zI8 (zTg hs)
  ·exact zT6 ⟨by simp,by decide⟩ (zGs (zFr x) (zFr y)) jk
  ·exact zT6 ⟨by simp,by decide⟩ (zGs (zFr a) (zGs (zFr b) (zGs (zFr u) (zFr v)))) jk
  ·exact zPm ⟨by simp,by decide⟩ jk
  ·refine zPm ?_ jk;rcases hw with rfl|rfl <;> exact⟨by decide +kernel,by decide +kernel⟩
  ·exact zPm (zFr k) jk
theorem Ru.alt{t:It}(h:Ru n t):Alt t.pc:=by
 have:=h.altr [] (.inl rfl) trivial
 rwa[xY]at this
theorem jb_m{m:List (List Nat)->Nat}(ma:∀a b,m (a++b)=m a+m b)(m1:m [[32]]=1):∀{ps:List It},ps≠[]->m (jb (ps.map It.pc))+1=(ps.map λp=>m p.pc+1).sum
 | [p],_=>by simp[jb]
 | p::q::r,_=>by
  have ih:=jb_m ma m1 (ps:=q::r) (by simp);show m (p.pc++([[32]]++jb ((q::r).map It.pc)))+1=_;rw[ma,ma,m1,xt (a:=p),xQ,<- ih];lia
theorem zJm{k:Nat}{f:It->Nat}:∀{ps:List It},(∀p∈ps,f p<=k*p.sz)->(ps.map f).sum<=k*(ps.map It.sz).sum
 | [],_=>by simp
 | p::ps,h=>by
  have a:=h p (.head _);have b:=zJm (ps:=ps) λq hq=>h q (.tail _ hq)
  rw[xt,xt,xQ,xQ,Nat.mul_add];lia
theorem Ru.m_le{m:List (List Nat)->Nat}(ma:∀a b,m (a++b)=m a+m b)(m1:m [[32]]=1)(m2:m [[41]]=1)(m3:∀(hp:List (List Nat)),hp.length<=4->hp.flatten.length<=28->m hp<=28):∀{n:Nat}{t:It},Ru n t->m t.pc+1<=30*t.sz
 | n+1,t,h=>by
  obtain⟨ps,hd,hp,hs⟩:=h;have jk:=λhn:ps≠[]=>jb_m ma m1 hn
  have sm:=zJm (k:=30) (f:=λp=>m p.pc+1) (ps:=ps) λp hp'=>(hp p hp').m_le ma m1 m2 m3
  have nd:∀hp:List (List Nat),ps≠[]->hp.length<=4->hp.flatten.length<=28->t.pc=node hp ps->m t.pc+1<=30*t.sz:=λhp hn h1 h2 e=>by
   have:=m3 hp h1 h2;have:=jk hn;rw[e,node,ma,ma,m2,hs,Nat.mul_add];lia
  rcases hd with⟨x,y,hx,hy,e1,e2,_⟩|⟨s,hs',e1,e2,_⟩|⟨x,y,r,hx,hy,e1,e2,e3⟩|⟨a,b,u,v,r,hb,hd,e1,e2,e3⟩|⟨q,r,e1,e2,e3⟩|⟨w,hw,e1,e2,hn,hl⟩|⟨k,hk,e1,e2,hn,hl⟩
  ·have:=zFb hx hy;have:=m3 [w2 x y] (by simp) (by simp;lia);rw[e2,hs];lia
  ·have:=hs'.len;rw[zBj]at this;have:=m3 [ls s] (by simp) (by rw[v9,List.flatten_nil,xY];lia);rw[e2,hs];lia
  ·have:=zFb hx hy;exact nd _ (by rw[e3];simp) (by simp) (by simp;lia) e2
  ·have:=zJg hb.1 hb.2.1 hb.2.2.1 hb.2.2.2;exact nd _ (by rw[e3];simp) (by simp) (by simp;lia) e2
  ·exact nd _ (by rw[e3];simp) (by simp) (by simp) e2
  ·refine nd _ hn (by simp) ?_ e2;rcases hw with rfl|rfl <;> decide +kernel
  ·have:=zH7 (n:=k) (f:=2) (by decide) (by have:(10:Nat) ^ 2=100:=rfl;lia);exact nd _ hn (by simp) (by simp;lia) e2
theorem Ru.len{t:It}(h:Ru n t):t.pc.length+1<=30*t.sz/\t.pc.flatten.length+1<=30*t.sz:=
 ⟨h.m_le (m:=List.length) (λa b=>xk) rfl rfl λhp h1 _=>by nofun,h.m_le (m:=λl=>l.flatten.length) (λa b=>by simp) rfl rfl λhp _ h2=>h2⟩
noncomputable def T (t:It):Str:=mk t.pc.flatten
theorem zS6{t:It}(h:Ru n t):(T t).length+1<=30*t.sz:=by unfold T;rw[zB2];exact h.len.2
theorem yB6{t:It}(h:Ru n t)(hz:t.sz<=900):zDn [.str (T t)] S=.ok t.d S:=by have:=h.len;exact zKv h.rt h.alt (by unfold T;rw[zBh]) (by have:=zS6 h;lia) (by nofun)
theorem zZ4(a b:List Nat):mk a++mk b=mk (a++b):=TX.str_ext (by
 rw[zBh];show((mk a).cps++(mk b).cps).toList=_;simp[mk])
theorem yAy{a b:List Nat}(h:a.length+b.length<=900000):addD S (.str (mk a)) (.str (mk b))=some (.str (mk (a++b))):=by show(if(mk a).length+(mk b).length<=most then some (D.str (mk a++mk b))else none)=_;rw[zB2,zB2,xc (xq h (by decide)),zZ4]
section
variable {S:Store}{env:Env}{a b:EM}{p q:List Nat}
theorem zAo(ha:a env S=.ok (.str (mk p)) S)(hb:b env S=.ok (.str (mk q)) S)(h:p.length+q.length<=900000):eOp addD a b env S=.ok (.str (mk (p++q))) S:=zA5 ha hb (yAy h)
theorem zXm{n:Int}(h:Bx n):strI S [.int n]=some (.str (mk (nm n))):=by
 have l:n.natAbs.log2<1920:=by
  have:n.natAbs<2 ^ 14:=xw h.lt (by decide);by_cases z:n.natAbs=0
  ·rw[z];decide
  ·exact Nat.lt_trans ((Nat.log2_lt z).mpr this) (by decide)
 show(if n.natAbs.log2<1920 then some (D.str (tn n))else none)=_;rw[xc l,zXe]
theorem zEi{n:Int}(h:Bx n)(ha:a env S=.ok (.int n) S):eCB strI (zA0 a aNil) env S=.ok (.str (mk (nm n))) S:=by rw[eCB,zAa ha,Rs.bind_ok,zXm h];rfl
end
theorem zIq:∀{ps:List It},ps≠[]->(jb (ps.map It.pc)).flatten=jn 32 (ps.map λp=>p.pc.flatten)
 | [p],_=>by simp[jb,jn]
 | p::q::r,_=>by
  have ih:=zIq (ps:=q::r) (by simp);show(p.pc++([32]::jb ((q::r).map It.pc))).flatten=_;rw[List.flatten_append,v9,ih];simp[jn]
theorem zZe{ps:List It}(h:ps≠[]):PySem.Txt.join (PySem.Str.ofString " ") (ps.map T)=mk (jb (ps.map It.pc)).flatten:=by refine TX.str_ext ?_;rw[zBh,zIq h];unfold PySem.Txt.join;rw[show PySem.Str.ofString " "=⟨#[32]⟩from rfl,TX.glued_ls,xU];congr 1
theorem zTs{p:It}:∀{l:List It},p∈l->p.sz<=(l.map It.sz).sum
 | a::l,h=>by
  rw[xt,xQ];rcases xr.mp h with rfl|h
  ·lia
  ·have:=zTs h;lia
def TI(r:Fn)(n:Nat):Prop:=∀(t:It) (S:Store),Ru n t->t.sz<=900->r [t.d] S=.ok (.str (T t)) S
theorem tq(h:decide (w=v)=b):tB (eOp eqY (eVar 1) (eC (.str v))) [some d,some (.str w),o] S=.ok b S:=(zAt (zA5 (zA4 rfl) rfl eqY_str)).trans (by rw[h])
noncomputable abbrev teL:EM:=eIf (tB (eOp eqY (eVar 1) (eC (.str (PySem.Str.ofString "least"))))) (eCB strI (zA0 (eOp ixD (eVar 0) (eC (.int 1))) aNil)) (eVar 1)
noncomputable abbrev teJ (r:Fn):EM:=eMt "str" joinM (eC (.str (PySem.Str.ofString " "))) (zA0 (zAv 1 [] (iVal (eOp ixD (eVar 0) (eUn negD (eC (.int 1))))) (gName 0) tYes (zA3 r (zA0 (eVar 0) aNil))) aNil)
theorem zXf{r:Fn}{ps:List It}(h:∀p∈ps,r [p.d] S=.ok (.str (T p)) S)(hn:ps≠[])(hz:(ps.map λp=>(T p).length+1).sum<=500000)(hl:ps.length<=1000)(h0:env[0]?=some (some (.tup l)))(hi:atL l (-1)=some (.tup (ps.map It.d))):teJ r env S=.ok (.str (mk (jb (ps.map It.pc)).flatten)) S:=by
 have iv:eOp ixD (eVar 0) (eUn negD (eC (.int 1))) env S=.ok (.tup (ps.map It.d)) S:=zA5 (x:=.tup l) (y:=.int (-1)) (zA4 h0) rfl hi;have c:(zAv 1 [] (iVal (eOp ixD (eVar 0) (eUn negD (eC (.int 1))))) (gName 0) tYes (zA3 r (zA0 (eVar 0) aNil))) env S=.ok (.lst (ps.map λp=>.str (T p))) S:=by refine zCw (xs:=ps) (h:=It.d) (gd:=[]) (λenv=>∃o,env=[o]) (zGh iv) zB1 ⟨none,rfl⟩ (xq hl (by decide)) ?_;rintro x hx env ⟨o,rfl⟩;exact⟨[some x.d],rfl,⟨_,rfl⟩,zA8 (zAa (zA4 rfl)) (h x hx)⟩
 have j:=zGd (S:=S) (sep:=PySem.Str.ofString " ") (ys:=ps.map T) (by decide) (by
  rw[xU,xp];have:∀l:List It,(l.map ((λy:Str=>y.length) ∘ T)).sum+l.length=(l.map λp=>(T p).length+1).sum:=λl=>by
   induction l with
   | nil=>rfl
   | cons a l ih=>rw[xt,xt,xQ,xQ,xv,<- ih];show(T a).length+_+_=_;lia
  rw[this];lia)
 rw[zZe hn,xU]at j;exact zCq rfl (zAa c) j
theorem zMc:∀n:Nat,TI (zB5 n) n
 | 0=>λt S h=>h.elim
 | n+1=>λt S h hz=>by
  have ih:TI (zB5 n) n:=zMc n;obtain⟨r,hr⟩:∃r,r=zB5 n:=⟨_,rfl⟩
  show zAg 1 3 (zC0 (zB5 n)) [t.d] S=_;rw[<- hr]at ih ⊢;have hT:=zS6 h;obtain⟨ps,hd,hp,hs⟩:=h;have rc:∀p∈ps,r [p.d] S=.ok (.str (T p)) S:=λp hp'=>ih p S (hp p hp') (by have:=zTs hp';lia)
  have rl:∀p∈ps,p.pc.flatten.length<=30000:=λp hp'=>by have:=(hp p hp').len;have:=zTs hp';lia
  have st:∀(w:Str) (l:List D),t.d=.tup (.str w::l)->sSet 1 (eOp ixD (eVar 0) (eC (.int 0))) [some t.d,none,none] S=.nx [some t.d,some (.str w),none] S:=λw l e=>by
   rw[sSet,zA5 (x:=t.d) (y:=.int 0) rfl rfl (show ixD S t.d (.int 0)=some (.str w) by rw[e];exact atL0)];rfl
  have ix:∀(o1 o2:Option D) (k:Nat) (l:List D) (x:D),t.d=.tup l->l[k]?=some x->eOp ixD (eVar 0) (eC (.int (k:Nat))) [some t.d,o1,o2] S=.ok x S:=λo1 o2 k l x e e2=>zA5 (x:=t.d) (y:=.int (k:Nat)) rfl rfl (by rw[e];exact atN rfl e2)
  have fin:∀l:List Nat,t.pc.flatten=l->zC0 r [some t.d,none,none] S=.rt (.str (mk l)) S->zAg 1 3 (zC0 r) [t.d] S=.ok (.str (T t)) S:=λl e e2=>by
   refine zAc rfl ?_ rfl;unfold T;rw[e];exact e2
  have big:∀(w:String) (l:List D) (hw:List Nat),t.d=.tup (tx w::l)->so w ∉ [so "cell",so "name",so "at",so "by",so "then"]->teL [some t.d,some (tx w),none] S=.ok (.str (mk hw)) S->hw.length<=30->ps≠[]->ps.length<=60->t.pc=node [hw,[40]] ps->atL (tx w::l) (-1)=some (.tup (ps.map It.d))->zAg 1 3 (zC0 r) [t.d] S=.ok (.str (T t)) S:=λw l hw e nw el hl hn h60 epc ea=>by
   have no:∀v:String,v∈["cell","name","at","by","then"]->decide (so w=so v)=false:=λv hv=>xi λz=>nw (by rw[z];exact xE.mpr ⟨v,hv,rfl⟩)
   have sm:=zJm (k:=30) (f:=λp=>(T p).length+1) (ps:=ps) λp hp'=>zS6 (hp p hp')
   have j:=zXf (r:=r) (S:=S) (env:=[some t.d,some (tx w),some (.str (mk hw))]) rc hn (by nofun) (by nofun) (by rw[e];rfl) ea;have jl:(jb (ps.map It.pc)).flatten.length<=30000:=by have:=zBj (T t);unfold T at hT;rw[zB2,epc]at hT;simp only[node,List.flatten_append,xk]at hT;lia
   refine fin (((hw++[40])++(jb (ps.map It.pc)).flatten)++[41]) (by rw[epc];simp[node]) (zA1 (st _ _ e) (zA1 (zA7 (tq (no _ (by simp))) rfl) (zA1 (zA7 (tq (no _ (by simp))) rfl) (zA1 (zA7 (tq (no _ (by simp))) rfl) (zA1 (zA7 (tq (no _ (by simp))) rfl) (zA1 (zA7 (tq (no _ (by simp))) rfl) (zA1 (e:=[some t.d,some (tx w),some (.str (mk hw))]) (S1:=S) ?_ (zAh (zAo (zAo (zAo rfl rfl ?_) j ?_) rfl ?_)))))))))
   ·show(teL [some t.d,some (tx w),none] S).then _=_;rw[el];rfl
   ·show hw.length+1<=_;lia
   ·rw[xk];show hw.length+1+_<=_;lia
   ·rw[xk,xk];show hw.length+1+_+1<=_;lia
  rcases hd with⟨x,y,hx,hy,e1,e2,_⟩|⟨s,hs',e1,e2,_⟩|⟨x,y,q,hx,hy,e1,e2,e3⟩|⟨a,b,u,v,q,hb,hd,e1,e2,e3⟩|⟨q,q',e1,e2,e3⟩|⟨w,hw,e1,e2,hn,hl⟩|⟨k,hk,e1,e2,hn,hl⟩
  ·have:=hx.len;have:=hy.len;refine fin ((nm x++[44])++nm y) (by rw[e2];simp[w2]) (zA1 (st _ _ e1) (zAq (zAl (tq (by decide +kernel)) (zAh (zAo (zAo (zEi hx (ix _ _ 1 _ _ e1 rfl)) rfl ?_) (zEi hy (ix _ _ 2 _ _ e1 rfl)) ?_)))))
   ·show _+1<=_;lia
   ·rw[xk];show _+1+_<=_;lia
  ·refine fin (ls s) (by rw[e2];simp) (zA1 (st _ _ e1) (zA1 (zA7 (tq (by decide +kernel)) rfl) (zAq (zAl (tq (by decide +kernel)) (zAh ?_)))));rw[str_mk];exact ix _ _ 1 _ _ e1 rfl
  ·have:=hx.len;have:=hy.len;have rq:=rc q (by rw[e3];exact .head _);have rl':=rl q (by rw[e3];exact .head _);refine fin (((((([97,116,40]++nm x)++[44])++nm y)++[32])++q.pc.flatten)++[41]) (by rw[e2,e3];simp[node,jb,w2]) (zA1 (st _ _ e1) (zA1 (zA7 (tq (by decide +kernel)) rfl) (zA1 (zA7 (tq (by decide +kernel)) rfl) (zAq (zAl (tq (by decide +kernel)) (zAh
    (zAo (zAo (zAo (zAo (zAo (zAo rfl (zEi hx (ix _ _ 1 _ _ e1 rfl)) ?_) rfl ?_) (zEi hy (ix _ _ 2 _ _ e1 rfl)) ?_) rfl ?_) (zA8 (zAa (ix _ _ 3 _ _ e1 rfl)) rq) ?_) rfl ?_)))))))
   all_goals simp only[xk,xv,vo];lia
  ·have:=hb.1.len;have:=hb.2.1.len;have:=hb.2.2.1.len;have:=hb.2.2.2.len;have wl:=zJg hb.1 hb.2.1 hb.2.2.1 hb.2.2.2;have rq:=rc q (by rw[e3];exact .head _);have rl':=rl q (by rw[e3];exact .head _);have c:(zAv 1 [] (iVal (eOp ixD (eVar 0) (eC (.int 1)))) (gName 0) tYes (eCB strI (zA0 (eVar 0) aNil))) [some t.d,some (tx "by"),none] S=.ok (.lst ([a,b,u,v].map λp=>.str (mk (nm p)))) S:=by
    refine zCw (xs:=[a,b,u,v]) (h:=D.int) (gd:=[]) (λenv=>∃o,env=[o]) (zGh (ix _ _ 1 _ _ e1 rfl)) zB1 ⟨none,rfl⟩ (show 4<=most by decide) ?_;rintro x hx env ⟨o,rfl⟩;refine⟨[some (.int x)],rfl,⟨_,rfl⟩,zEi ?_ (zA4 rfl)⟩;simp only[xr,xJ,xK]at hx;rcases hx with rfl|rfl|rfl|rfl
    ·exact hb.1
    ·exact hb.2.1
    ·exact hb.2.2.1
    ·exact hb.2.2.2
   have j:=zGd (S:=S) (sep:=PySem.Str.ofString ",") (ys:=[a,b,u,v].map λp=>mk (nm p)) (by decide) (by simp only[xt,vp,zB2,xQ,List.sum_nil,xv,vo];lia);have jw:PySem.Txt.join (PySem.Str.ofString ",") ([a,b,u,v].map λp=>mk (nm p))=mk (w4 a b u v):=by refine TX.str_ext ?_;rw[zBh,zTj];unfold PySem.Txt.join;rw[show PySem.Str.ofString ","=⟨#[44]⟩from rfl,TX.glued_ls,xU];congr 1
   rw[jw,xU]at j;refine fin (((([98,121,40]++w4 a b u v)++[32])++q.pc.flatten)++[41]) (by rw[e2,e3];simp[node,jb]) (zA1 (st _ _ e1) (zA1 (zA7 (tq (by decide +kernel)) rfl) (zA1 (zA7 (tq (by decide +kernel)) rfl) (zA1 (zA7 (tq (by decide +kernel)) rfl) (zAq (zAl (tq (by decide +kernel)) (zAh
    (zAo (zAo (zAo (zAo rfl (zCq rfl (zAa c) j) ?_) rfl ?_) (zA8 (zAa (ix _ _ 2 _ _ e1 rfl)) rq) ?_) rfl ?_))))))))
   all_goals simp only[xk,xv,vo];lia
  ·have rq:=rc q (by rw[e3];exact .head _);have rl':=rl q (by rw[e3];exact .head _);have rq2:=rc q' (by rw[e3];exact .tail _ (.head _));have rl2:=rl q' (by rw[e3];exact .tail _ (.head _));refine fin (((([116,104,101,110,40]++q.pc.flatten)++[32])++q'.pc.flatten)++[41]) (by rw[e2,e3];simp[node,jb]) (zA1 (st _ _ e1) (zA1 (zA7 (tq (by decide +kernel)) rfl) (zA1 (zA7 (tq (by decide +kernel)) rfl) (zA1 (zA7 (tq (by decide +kernel)) rfl) (zA1 (zA7 (tq (by decide +kernel)) rfl) (zAq (zAl (tq (by decide +kernel)) (zAh
    (zAo (zAo (zAo (zAo rfl (zA8 (zAa (ix _ _ 1 _ _ e1 rfl)) rq) ?_) rfl ?_) (zA8 (zAa (ix _ _ 2 _ _ e1 rfl)) rq2) ?_) rfl ?_)))))))))
   all_goals simp only[xk,xv,vo];lia
  ·refine big w _ (ls (so w)) e1 (by rcases hw with rfl|rfl <;> decide +kernel) ?_ (by rcases hw with rfl|rfl <;> decide +kernel) hn hl e2 (atM (k:=1) rfl rfl);show eIf _ _ _ _ S=_;rw[eIf,tq (b:=false) (by rcases hw with rfl|rfl <;> decide +kernel),Rs.bind_ok,xf (by decide),str_mk];rfl
  ·have bk:Bx k:=by unfold Bx;lia
   refine big "least" _ (nm k) e1 (by decide +kernel) ?_ (by have:=bk.len;lia) hn hl e2 (atM (k:=2) rfl rfl);show eIf _ _ _ _ S=_;rw[eIf,tq (b:=true) (by decide +kernel),Rs.bind_ok,xc rfl];exact zEi bk (ix _ _ 1 _ _ e1 rfl)
theorem zPr{c:TM}(h:c env S=.ok false S):zC2 c b env S=.nx env S:=by
 have w1:zAr c b 1 env S=.nx env S:=by unfold zAr;rw[h,Rs.then_ok,xf (by decide)]
 rw[zDg (n:=1) (by rw[w1];intro z;cases z),w1]
theorem zJs{n:Int}(h:Bx n)(hn:¬ n<0):zAg 1 3 (zCl F) [.int n] S=.ok (.str (mk (nm n))) S:=by
 refine zAc rfl ?_ rfl;have l0:tB (eOp ltN (eVar 0) (eC (.int 0))) [some (.int n),none,none] S=.ok false S:=zAt (zA5 (zA4 rfl) rfl (by show some (D.bl (decide (n<0)))=_;rw[xi hn]));have g0:tB (eOp geD (eVar 0) (eVar 1)) [some (.int n),some (.int (10 ^ 64)),some (.str (mk []))] S=.ok false S:=zAt (zA5 (zA4 rfl) (zA4 rfl) (by
  show some (D.bl (decide ((10:Int) ^ 64<=n)))=_;have:=h.lt;rw[xi (by nofun)]))
 have l:=h.len;have fin:=zAo (S:=S) (env:=[some (.int n),some (.int (10 ^ 64)),some (.str (mk []))]) (a:=eCB strI (zA0 (eVar 0) aNil)) (b:=eVar 2) (p:=nm n) (q:=[]) (zEi h (zA4 rfl)) (zA4 rfl) (by show _+0<=_;lia);rw[xY]at fin;refine zA1 (e:=[some (.int n),none,none]) (S1:=S) (zA7 l0 rfl) (zA1 (e:=[some (.int n),some (.int (10 ^ 64)),none]) (S1:=S) ?_ (zA1 (e:=[some (.int n),some (.int (10 ^ 64)),some (.str (mk []))]) (S1:=S) rfl (zA1 (e:=[some (.int n),some (.int (10 ^ 64)),some (.str (mk []))]) (S1:=S) (zPr g0) (zAh fin))));rw[sSet,zA5 (x:=.int 10) (y:=.int 64) (S:=S) (S1:=S) (S2:=S) (z:=.int (10 ^ 64)) rfl rfl (show powD S (.int 10) (.int 64)=some (.int (10 ^ 64))from rfl)];rfl
theorem zXp{n:Int}(h:Bx n):zBp [.int n] S=.ok (.str (mk (nm n))) S:=by
 show zAg 1 3 (zCl (zAz 1)) [.int n] S=_;by_cases c:n<0
 ·refine zAc rfl ?_ rfl;have l0:tB (eOp ltN (eVar 0) (eC (.int 0))) [some (.int n),none,none] S=.ok true S:=zAt (zA5 (zA4 rfl) rfl (by show some (D.bl (decide (n<0)))=_;rw[xj c]));have hb:Bx (-n):=by unfold Bx at h ⊢;lia
  have i:zAz 1 [.int (-n)] S=.ok (.str (mk (nm (-n)))) S:=zJs hb (by nofun);have en:[45]++nm (-n)=nm n:=by unfold nm;rw[xf (by nofun),xc c,Int.natAbs_neg];rfl
  have l:=hb.len;have:=zAo (S:=S) (env:=[some (.int n),none,none]) (a:=eC (.str (PySem.Str.ofString "-"))) (b:=zA3 (zAz 1) (zA0 (eUn negD (eVar 0)) aNil)) (p:=[45]) (q:=nm (-n)) rfl (zA8 (zAa (zTk (zA4 rfl) rfl)) i) (by show 1+_<=_;lia);rw[en]at this;exact zAq (zAl l0 (zAh this))
 ·exact zJs h c
theorem zIe{ns:List Int}(h:∀n∈ns,Bx n)(hl:ns.length<=4):zAj [.tup (ns.map .int)] S=.ok (.str (mk (jn 44 (ns.map nm)))) S:=by
 refine zAc rfl ?_ rfl;have c:(zAv 1 [] (iVal (eVar 0)) (gName 0) tYes (zA3 zBp (zA0 (eVar 0) aNil))) [some (.tup (ns.map .int))] S=.ok (.lst (ns.map λn=>.str (mk (nm n)))) S:=by refine zCw (xs:=ns) (h:=D.int) (gd:=[]) (λenv=>∃o,env=[o]) (zGh rfl) zB1 ⟨none,rfl⟩ (xq hl (by decide)) ?_;rintro x hx env ⟨o,rfl⟩;exact⟨[some (.int x)],rfl,⟨_,rfl⟩,zA8 (zAa (zA4 rfl)) (zXp (h x hx))⟩
 have j:=zGd (S:=S) (sep:=PySem.Str.ofString ",") (ys:=ns.map λp=>mk (nm p)) (by decide) (by
  rw[xU,xp];have:∀l:List Int,(∀n∈l,Bx n)->(l.map ((λy:Str=>y.length) ∘ λp=>mk (nm p))).sum<=5*l.length:=λl=>by
   induction l with
   | nil=>exact λ_=>xh _
   | cons a l ih=>
    intro h;have h1:=ih λn hn=>h n (.tail _ hn)
    have h2:=(h a (.head _)).len;rw[xt,xQ,xv];show(mk (nm a)).length+_<=_;rw[zB2];lia
  have:=this ns h;lia)
 have jw:PySem.Txt.join (PySem.Str.ofString ",") (ns.map λp=>mk (nm p))=mk (jn 44 (ns.map nm)):=by refine TX.str_ext ?_;rw[zBh];unfold PySem.Txt.join;rw[show PySem.Str.ofString ","=⟨#[44]⟩from rfl,TX.glued_ls,xU];congr 1
 rw[jw,xU]at j;exact zAh (zCq rfl (zAa c) j)
noncomputable abbrev bhT (ps:List It):List Nat:=if ps=[]then []else(jb (ps.map It.pc)).flatten++[41]
theorem fq(h:decide (w=v)=b):tB (eOp eqY (eVar 1) (eC (.str v))) [some d,some (.str w)] S=.ok b S:=(zAt (zA5 (zA4 rfl) rfl eqY_str)).trans (by rw[h])
theorem yAs{l:List D}{a b:Nat}(h:b<=l.length)(h2:a<=b):cutL l (some (a:Int)) (some (b:Int))=(l.drop a).take (b-a):=by unfold cutL sIx;dsimp only;rw[xf (by nofun),xf (by nofun),vT,vT,ug h,ug (xq h2 h)]
theorem zRn{pc:List (List Nat)}(h:Head d pc ps):∃fr:List Nat,(∀S,zD3 [d] S=.ok (.str (mk fr)) S)/\pc.flatten=fr++bhT ps/\fr.length<=100:=by
 have st:∀(S:Store) (w:Str) (l:List D),sSet 1 (eOp ixD (eVar 0) (eC (.int 0))) [some (.tup (.str w::l)),none] S=.nx [some (.tup (.str w::l)),some (.str w)] S:=λS w l=>by
  rw[sSet,zA5 (x:=.tup (.str w::l)) (y:=.int 0) rfl rfl (show ixD S (.tup (.str w::l)) (.int 0)=some (.str w)from atL0)];rfl
 have ix:∀(S:Store) (o1:Option D) (k:Nat) (l:List D) (x:D),l[k]?=some x->eOp ixD (eVar 0) (eC (.int (k:Nat))) [some (.tup l),o1] S=.ok x S:=λS o1 k l x e2=>zA5 (x:=.tup l) (y:=.int (k:Nat)) rfl rfl (atN rfl e2)
 have sl:∀(S:Store) (o1:Option D) (l:List D) (b:Nat) (m:List D),1<=b->b<=l.length->(l.drop 1).take (b-1)=m->eSl slD (eVar 0) (pYes (eC (.int 1))) (pYes (eC (.int (b:Nat)))) [some (.tup l),o1] S=.ok (.tup m) S:=λS o1 l b m h1 h2 e=>by
  show Rs.ok (D.tup (cutL l (some ((1:Nat):Int)) (some (b:Int)))) S=_;rw[yAs h2 h1,e]
 have two:∀{x y:Int},Bx x->Bx y->∀S,zAj [.tup [.int x,.int y]] S=.ok (.str (mk (w2 x y))) S:=λ{x y} hx hy S=>by
  rw[zX8];exact zIe (ns:=[x,y]) (λn hn=>by
   rcases xr.mp hn with rfl|hn
   ·exact hx
   ·rw[xx.mp hn];exact hy) (by simp)
 rcases h with⟨x,y,hx,hy,rfl,e2,rfl⟩|⟨s,hs',rfl,e2,rfl⟩|⟨x,y,q,hx,hy,rfl,e2,e3⟩|⟨a,b,u,v,q,hb,hd,rfl,e2,e3⟩|⟨q,q',rfl,e2,e3⟩|⟨w,hw,rfl,e2,hn,hl⟩|⟨k,hk,rfl,e2,hn,hl⟩
 ·have wl:=zFb hx hy;refine⟨w2 x y,λS=>zAc rfl (zA1 (st _ _ _) (zAq (zAl (fq (by decide +kernel)) (zAh (zA8 (zAa ?_) (two hx hy S)))))) rfl,by rw[e2];simp,by nofun⟩;show Rs.ok (D.tup (cutL [tx "cell",.int x,.int y] (some 1) none)) S=_;rw[zOq _ (by decide)];rfl
 ·have sl:=hs'.len;rw[zBj]at sl;refine⟨ls s,λS=>zAc rfl (zA1 (st _ _ _) (zA1 (zA7 (fq (by decide +kernel)) rfl) (zAq (zAl (fq (by decide +kernel)) (zAh ?_))))) rfl,by rw[e2];simp,by nofun⟩;rw[str_mk];exact ix S _ 1 _ _ rfl
 ·have wl:=zFb hx hy;refine⟨([97,116,40]++w2 x y)++[32],λS=>zAc rfl (zA1 (st _ _ _) (zA1 (zA7 (fq (by decide +kernel)) rfl) (zA1 (zA7 (fq (by decide +kernel)) rfl) (zA1 (zA7 (fq (by decide +kernel)) rfl) (zAq (zAl (fq (by decide +kernel)) (zAh (zAo (zAo rfl (zA8 (zAa (sl S _ _ 3 _ (by decide) (by simp) rfl)) (two hx hy S)) ?_) rfl ?_)))))))) rfl,by rw[e2,bhT,xf (by rw[e3];simp)];simp[node],?_⟩
  all_goals simp only[xk,xv,vo];lia
 ·have wl:=zJg hb.1 hb.2.1 hb.2.2.1 hb.2.2.2;have four:∀S,zAj [.tup [.int a,.int b,.int u,.int v]] S=.ok (.str (mk (w4 a b u v))) S:=λS=>by
   rw[zTj];exact zIe (ns:=[a,b,u,v]) (λn hn=>by
    simp only[xr,xJ,xK]at hn;rcases hn with rfl|rfl|rfl|rfl
    ·exact hb.1
    ·exact hb.2.1
    ·exact hb.2.2.1
    ·exact hb.2.2.2) (by simp)
  refine⟨([98,121,40]++w4 a b u v)++[32],λS=>zAc rfl (zA1 (st _ _ _) (zA1 (zA7 (fq (by decide +kernel)) rfl) (zA1 (zA7 (fq (by decide +kernel)) rfl) (zA1 (zA7 (fq (by decide +kernel)) rfl) (zA1 (zA7 (fq (by decide +kernel)) rfl) (zAq (zAl (fq (by decide +kernel)) (zAh (zAo (zAo rfl (zA8 (zAa (ix S _ 1 _ _ rfl)) (four S)) ?_) rfl ?_))))))))) rfl,by rw[e2,bhT,xf (by rw[e3];simp)];simp[node],?_⟩
  all_goals simp only[xk,xv,vo];lia
 ·exact⟨[116,104,101,110]++[40],λS=>zAc rfl (zA1 (st _ _ _) (zA1 (zA7 (fq (by decide +kernel)) rfl) (zA1 (zA7 (fq (by decide +kernel)) rfl) (zA1 (zA7 (fq (by decide +kernel)) rfl) (zA1 (zA7 (fq (by decide +kernel)) rfl) (zA1 (zA7 (fq (by decide +kernel)) rfl) (zAh (zAo rfl rfl (by decide))))))))) rfl,by rw[e2,bhT,xf (by rw[e3];simp)];simp[node],by simp⟩
 ·have wl:(ls (so w)).length<=3:=by rcases hw with rfl|rfl <;> decide +kernel
  refine⟨ls (so w)++[40],λS=>zAc rfl (zA1 (st _ _ _) (zA1 (zA7 (fq (by rcases hw with rfl|rfl <;> decide +kernel)) rfl) (zA1 (zA7 (fq (by rcases hw with rfl|rfl <;> decide +kernel)) rfl) (zA1 (zA7 (fq (by rcases hw with rfl|rfl <;> decide +kernel)) rfl) (zA1 (zA7 (fq (by rcases hw with rfl|rfl <;> decide +kernel)) rfl) (zA1 (zA7 (fq (by rcases hw with rfl|rfl <;> decide +kernel)) rfl) (zAh (zAo (by rw[str_mk];rfl) rfl ?_)))))))) rfl,by rw[e2,bhT,xf hn];simp[node],?_⟩
  all_goals simp only[xk,xv,vo];lia
 ·have bk:Bx k:=by unfold Bx;lia
  have kl:=bk.len;have one:∀S,zAj [.tup [.int k]] S=.ok (.str (mk (nm k))) S:=λS=>by
   have:=zIe (S:=S) (ns:=[k]) (λn hn=>by rw[xx.mp hn];exact bk) (by simp);rw[show jn 44 ([k].map nm)=nm k by simp[jn]]at this;exact this
  refine⟨nm k++[40],λS=>zAc rfl (zA1 (st _ _ _) (zA1 (zA7 (fq (by decide +kernel)) rfl) (zA1 (zA7 (fq (by decide +kernel)) rfl) (zAq (zAl (fq (by decide +kernel)) (zAh (zAo (zA8 (zAa (sl S _ _ 2 _ (by decide) (by simp) rfl)) (one S)) rfl ?_))))))) rfl,by rw[e2,bhT,xf hn];simp[node],?_⟩
  all_goals simp only[xk,xv,vo];lia
theorem zZr :forL [] g b [] env S=.nx env S:=by rw[forL,xc zB1]
theorem zW6{g:GM}{b:SM}(hg:g S d env=some e1)(hb:b e1 S=.nx e2 S1)(h:forL [] g b ds e2 S1=q):forL [] g b (d::ds) env S=q:=by rw[forL,xc zB1,hg];dsimp only;rw[hb];exact h
theorem zWa{S:Store}{n:Nat}{l m:List D}(h:S[n]?=some (.lst l))(hl:l.length+m.length<=5000):zB8 S (.ref n) [.lst m]=some (.non,S.set n (.lst (l++m))):=by have e:litems S (.lst m)=some m:=rfl;simp only[zB8,h,e];rw[xf (by intro z;cases z),xc (xq hl (by decide))]
theorem Head.tup{pc:List (List Nat)}(h:Head d pc ps):∃w l,d=.tup (.str w::l):=by rcases h with⟨x,y,_,_,rfl,_⟩|⟨s,_,rfl,_⟩|⟨x,y,r,_,_,rfl,_⟩|⟨a,b,u,v,r,_,_,rfl,_⟩|⟨q,r,rfl,_⟩|⟨w,_,rfl,_⟩|⟨k,_,rfl,_⟩ <;> exact⟨_,_,rfl⟩
theorem Ru.tup{t:It}(h:Ru n t):∃w l,t.d=.tup (.str w::l):=by
 cases n with
 | zero=>exact h.elim
 | succ n=>obtain⟨_,h,_⟩:=h;exact h.tup
inductive W
 | r (t:It)
 | s (x:List Nat)
noncomputable def W.d:W->D
 | .r t=>t.d
 | .s x=>.str (mk x)
noncomputable def W.t:W->List Nat
 | .r t=>t.pc.flatten
 | .s x=>x
noncomputable def W.m:W->Nat
 | .r t=>2*t.sz-1
 | .s _=>1
noncomputable def il (ps:List It):List W:=ps.flatMap λp=>[.s [32],.r p]
noncomputable def bw:List It->List W
 | []=>[]
 | p::r=>.r p::(il r++[.s [41]])
theorem bw_t(ps:List It):(bw ps).flatMap W.t=bhT ps:=by
 cases ps with
 | nil=>rfl
 | cons p r=>
  have e:∀r:List It,(il r).flatMap W.t=r.flatMap λq=>32::q.pc.flatten:=λr=>by
   induction r with
   | nil=>rfl
   | cons q r ih=>show [32]++(q.pc.flatten++(il r).flatMap W.t)=_;rw[ih];rfl
  rw[bhT,xf (by simp),zIq (by simp)];show p.pc.flatten++(il r++[W.s [41]]).flatMap W.t=_;rw[uA,e];simp[jn,List.flatMap_map,W.t]
theorem bw_m{ps:List It}(h:∀p∈ps,1<=p.sz):((bw ps).map W.m).sum=2*(ps.map It.sz).sum/\(bw ps).length<=((bw ps).map W.m).sum:=by
 cases ps with
 | nil=>exact⟨rfl,xh _⟩
 | cons p r=>
  have e:∀r:List It,(∀p∈r,1<=p.sz)->((il r).map W.m).sum=2*(r.map It.sz).sum/\(il r).length<=2*(r.map It.sz).sum:=λr=>by
   induction r with
   | nil=>exact λ_=>⟨rfl,xh _⟩
   | cons q r ih=>
    intro hr;have:=ih λp hp=>hr p (.tail _ hp)
    have:=hr q (.head _);constructor
    ·show 1+((2*q.sz-1)+((il r).map W.m).sum)=_;rw[xt,xQ];lia
    ·show(il r).length+1+1<=_;rw[xt,xQ];lia
  have:=e r λq hq=>h q (.tail _ hq)
  have:=h p (.head _);have e1:((bw (p::r)).map W.m).sum=2*((p::r).map It.sz).sum:=by show(2*p.sz-1)+((il r++[W.s [41]]).map W.m).sum=_;rw[xP,List.sum_append,xt (a:=p),xQ];show _+(_+1)=_;lia
  refine⟨e1,?_⟩;rw[e1];show(il r++[W.s [41]]).length+1<=_;rw[xk,xt,xQ];show _+1+1<=_;lia
theorem zZm(r:List It):(il r).length=2*r.length:=by
 induction r with
 | nil=>rfl
 | cons a r ih=>show(il r).length+1+1=_;rw[ih,xv];lia
noncomputable abbrev bfB:SM:=zAp (eMt "list" zB8 (eVar 1) (zA0 (eLst (zA0 (eC (.str (PySem.Str.ofString " "))) (zA0 (eVar 2) aNil))) aNil))
theorem zPe{S:Store}:∀(ps:List It) (acc:List W) (o:Option D),acc.length+2*ps.length<=4000->∃o',forL [] (gName 2) bfB (ps.map It.d) [some v,some (.ref S.length),o] (S++[.lst (acc.map W.d)])=.nx [some v,some (.ref S.length),o'] (S++[.lst ((acc++il ps).map W.d)])
 | [],acc,o,_=>⟨o,by rw[vp,zZr];simp[il]⟩
 | p::ps,acc,o,hz=>by
  rw[xv]at hz;obtain⟨o',e⟩:=zPe (S:=S) (v:=v) ps (acc++[W.s [32],W.r p]) (some p.d) (by rw[xk];show _+2+_<=_;lia);refine⟨o',?_⟩;rw[show acc++[W.s [32],W.r p]++il ps=acc++il (p::ps) by simp[il]]at e;refine zW6 (e1:=[some v,some (.ref S.length),some p.d]) (S1:=S++[.lst ((acc++[W.s [32],W.r p]).map W.d)]) rfl ?_ e;have at_:(S++[D.lst (acc.map W.d)])[S.length]?=some (.lst (acc.map W.d)):=by simp
  have ex:=zWa (m:=[tx " ",p.d]) at_ (by rw[xp];show _+2<=_;lia);rw[show(S++[D.lst (acc.map W.d)]).set S.length (.lst (acc.map W.d++[tx " ",p.d]))=S++[.lst ((acc++[W.s [32],W.r p]).map W.d)] by rw[u4 _ _ (xh _)];simp[W.d,mk];rfl]at ex;show zAp _ _ _=_;rw[zAp,zCr (S:=S++[D.lst (acc.map W.d)]) (a:=zA0 (eLst (zA0 (eC (.str (PySem.Str.ofString " "))) (zA0 (eVar 2) aNil))) aNil) (env:=[some v,some (.ref S.length),some p.d]) (xs:=[.lst [tx " ",p.d]]) rfl at_ rfl ex];rfl
theorem zPf{S:Store}{pc:List (List Nat)}{ps:List It}(h:Head d pc ps)(hl:∀p∈ps,p.d.low S.length=true)(hz:ps.length<=900):zAx [d] S=.ok (.lst ((bw ps).map W.d)) S:=by
 have lo:∀p∈ps,p.d.low (S++[D.lst []]).length=true:=λp hp=>zG8 (by rw[xk];lia) (hl p hp)
 have pp:=zY7 (S:=S++[D.lst []]) h lo;obtain⟨o',e⟩:=zPe (S:=S) (v:=d) ps [] none (by show 0+_<=_;lia);rw[ue]at e;have lw:lowL S.length ((bw ps).map W.d)=true:=zBi λx hx=>by
  obtain⟨w,hw,rfl⟩:=xE.mp hx;have:∀w∈bw ps,(∃x,w=.s x)\/∃p∈ps,w=.r p:=λw hw=>by
   cases ps with
   | nil=>cases hw
   | cons p r=>
    rcases xr.mp hw with rfl|hw
    ·exact .inr ⟨p,.head _,rfl⟩
    ·rcases xH.mp hw with hw|hw
     ·obtain⟨q,hq,hw⟩:=List.mem_flatMap.mp hw;simp only[xr,xJ,xK]at hw;rcases hw with rfl|rfl
      ·exact .inl ⟨_,rfl⟩
      ·exact .inr ⟨q,.tail _ hq,rfl⟩
     ·exact .inl ⟨_,xx.mp hw⟩
  rcases this w hw with⟨x,rfl⟩|⟨p,hp,rfl⟩
  ·rfl
  ·exact hl p hp
 refine zD4 (T:=[.lst ((il ps).map W.d)]) rfl (zA1 (e:=[some d,some (.ref S.length),none]) (S1:=S++[.lst []]) rfl (zA1 (e:=[some d,some (.ref S.length),o']) (S1:=S++[.lst ((il ps).map W.d)]) ?_ (zAh ?_))) lw
 ·rw[sFor,zGh (zA8 (zAa (zA4 rfl)) pp),Rs.then_ok];exact e
 ·have at_:(S++[D.lst ((il ps).map W.d)])[S.length]?=some (.lst ((il ps).map W.d)):=by simp
  show eIf _ _ _ _ _=_;cases ps with
  | nil=>
   have tr:tTru (eVar 1) [some d,some (.ref S.length),o'] (S++[D.lst ((il []).map W.d)])=.ok false (S++[D.lst ((il []).map W.d)]):=by rw[tTru,zA4 (d:=.ref S.length) rfl,Rs.bind_ok];unfold truth;rw[zB4 at_];rfl
   rw[eIf,tr,Rs.bind_ok,xf (by decide)];rfl
  | cons p r=>
   have tr:tTru (eVar 1) [some d,some (.ref S.length),o'] (S++[D.lst ((il (p::r)).map W.d)])=.ok true (S++[D.lst ((il (p::r)).map W.d)]):=by rw[tTru,zA4 (d:=.ref S.length) rfl,Rs.bind_ok,zEh at_ (by simp[il])];rfl
   rw[eIf,tr,Rs.bind_ok,xc rfl];have sl:eSl slD (eVar 1) (pYes (eC (.int 1))) pNo [some d,some (.ref S.length),o'] (S++[D.lst ((il (p::r)).map W.d)])=.ok (.lst (((il (p::r)).map W.d).drop 1)) (S++[D.lst ((il (p::r)).map W.d)]):=by show lift (slD _ (.ref S.length) (some 1) none) _=_;unfold slD;dsimp only;rw[zB4 at_];dsimp only;rw[zOq _ (by decide)];rfl
   have ll:=zZm r;refine zA5 sl (y:=.lst [tx ")"]) rfl ?_;show(if(((il (p::r)).map W.d).drop 1).length+1<=most then some (D.lst (((il (p::r)).map W.d).drop 1++[tx ")"]))else none)=_;rw[xc]
   ·show some (D.lst (p.d::(il r).map W.d++[tx ")"]))=some (D.lst (p.d::(il r++[W.s [41]]).map W.d));rw[xP];rfl
   ·rw[xv]at hz;show(p.d::(il r).map W.d).length+1<=most;rw[xv,xp,ll];exact xq (show _<=2000 by nofun) (by decide)
noncomputable abbrev srB:SM:=sSeq (sSet 3 (eMt "list" popM (eVar 2) aNil))
  (sIf (tTru (eCB isiB (zA0 (eVar 3) (zA0 (eC (.ty "str")) aNil)))) (zAp (eMt "list" zAi (eVar 1) (zA0 (eVar 3) aNil))) (sSeq (zAp (eMt "list" zAi (eVar 1) (zA0 (zA3 zD3 (zA0 (eVar 3) aNil)) aNil)))
  (zAp (eMt "list" zB8 (eVar 2) (zA0 (eUn revL (zA3 zAx (zA0 (eVar 3) aNil))) aNil)))))
noncomputable abbrev stk (S:Store) (acc:List (List Nat)) (todo:List W):Store:=S++[.lst (acc.map λx=>D.str (mk x)),.lst (todo.reverse.map W.d)]
def okW(w:W):Prop:=match w with
 | .r t=>∃k,Ru k t
 | .s x=>x.length<=30
theorem Ru.pos'{t:It}(h:Ru k t):1<=t.sz:=by
 cases k with
 | zero=>exact h.elim
 | succ k=>exact h.pos
theorem okW.m{w:W}(h:okW w):1<=w.m:=by
 cases w with
 | s x=>exact xh _
 | r t=>obtain⟨k,hk⟩:=h;have:=hk.pos';show 1<=2*t.sz-1;lia
theorem zRc:∀{l:List W},(∀w∈l,okW w)->l.length<=(l.map W.m).sum
 | [],_=>xh _
 | a::l,h=>by
  have h1:=zRc λp hp=>h p (.tail _ hp)
  have h2:=(h a (.head _)).m;rw[xt,xQ,xv];lia
section
variable {S:Store}{v:D}{acc:List (List Nat)}{todo:List W}{w:W}{o3:Option D}
theorem stk1:(stk S acc todo)[S.length]?=some (.lst (acc.map λx=>D.str (mk x))):=by simp[stk]
theorem stk2:(stk S acc todo)[S.length+1]?=some (.lst (todo.reverse.map W.d)):=by rw[stk,xM (by nofun)];simp
theorem zQ2{acc':List (List Nat)}:(stk S acc todo).set S.length (.lst (acc'.map λx=>D.str (mk x)))=stk S acc' todo:=by rw[stk,u4 _ _ (xh _)];simp[stk]
theorem zJq{todo':List W}:(stk S acc todo).set (S.length+1) (.lst (todo'.reverse.map W.d))=stk S acc todo':=by rw[stk,u4 _ _ (by nofun)];simp[stk]
theorem zSc:sSet 3 (eMt "list" popM (eVar 2) aNil) [some v,some (.ref S.length),some (.ref (S.length+1)),o3] (stk S acc (w::todo))=.nx [some v,some (.ref S.length),some (.ref (S.length+1)),some w.d] (stk S acc todo):=by
 have at2:(stk S acc (w::todo))[S.length+1]?=some (.lst (todo.reverse.map W.d++[w.d])):=by rw[stk2];simp
 rw[sSet,zCr (S:=stk S acc (w::todo)) (env:=[some v,some (.ref S.length),some (.ref (S.length+1)),o3]) (a:=aNil) (c:=S.length+1) rfl at2 rfl (pop_at at2),zJq];rfl
theorem zSd{x:List Nat}{e:EM}(hl:acc.length<100000)(he:e [some v,some (.ref S.length),some (.ref (S.length+1)),some w.d] (stk S acc todo)=.ok (.str (mk x)) (stk S acc todo)):zAp (eMt "list" zAi (eVar 1) (zA0 e aNil)) [some v,some (.ref S.length),some (.ref (S.length+1)),some w.d] (stk S acc todo)=.nx [some v,some (.ref S.length),some (.ref (S.length+1)),some w.d] (stk S (acc++[x]) todo):=by have ap:=zI7 (d:=.str (mk x)) (stk1 (S:=S) (acc:=acc) (todo:=todo)) (by rw[xp];lia);rw[show(acc.map λx=>D.str (mk x))++[.str (mk x)]=(acc++[x]).map λx=>D.str (mk x) by simp,zQ2]at ap;rw[zAp,zCr (S:=stk S acc todo) (env:=[some v,some (.ref S.length),some (.ref (S.length+1)),some w.d]) (c:=S.length) rfl stk1 (zAa he) ap];rfl
end
theorem zNr(ys:List (List Nat)):PySem.Txt.join (PySem.Str.ofString "") (ys.map mk)=mk ys.flatten:=by
 cases ys with
 | nil=>rfl
 | cons p ys=>
  refine TX.str_ext ?_;have e:(PySem.Txt.join (so "") ((p::ys).map mk)).cps.toList=(mk p).cps.toList++(ys.map mk).flatMap λq=>(so "").cps.toList++q.cps.toList:=TX.fold_ls (so "").cps (ys.map mk) (mk p).cps
  have e2:(so "").cps.toList=[]:=by decide +kernel
  refine e.trans ?_;rw[e2,zBh,show(mk p).cps.toList=p from zBh p,List.flatMap_map,v9];congr 1
  clear e
  induction ys with
  | nil=>rfl
  | cons a l ih=>rw[vP,ih,ue,show(mk a).cps.toList=a from zBh a];rfl
theorem zTw{t:It}(h:Ru n t)(hz:t.sz<=900):zBk [t.d] S=.ok (.str (T t)) S:=by
 obtain⟨v,hv⟩:∃v,v=t.d:=⟨_,rfl⟩
 have tl:=zS6 h;unfold T at tl;rw[zB2]at tl;rw[<- hv];obtain⟨env',S',e,acc,todo,o3,rfl,rfl,hk,ha,hm,hl⟩:=zM5 (c:=tTru (eVar 2)) (b:=srB) (λm env T=>∃(acc:List (List Nat)) (todo:List W) (o3:Option D),env=[some v,some (.ref S.length),some (.ref (S.length+1)),o3]/\T=stk S acc todo/\(∀w∈todo,okW w)/\acc.flatten++todo.flatMap W.t=t.pc.flatten/\m=(todo.map W.m).sum/\acc.length+m<=1800) (λenv T hI=>by
  obtain⟨acc,todo,o3,rfl,rfl,hk,ha,hm,hl⟩:=hI;have z:todo=[]:=by have:=zRc hk;exact uZ.mp (by nofun)
  subst z;rw[tTru,zA4 (d:=.ref (S.length+1)) rfl,Rs.bind_ok];unfold truth;rw[zB4 stk2];rfl) (λm env T hI=>by
  obtain⟨acc,todo,o3,rfl,rfl,hk,ha,hm,hl⟩:=hI
  match todo,hk,ha,hm with
  | [],_,_,hm=>simp at hm
  | w::rest,hk,ha,hm=>
   refine⟨by rw[tTru,zA4 (d:=.ref (S.length+1)) rfl,Rs.bind_ok,zEh stk2 (by simp)];rfl,?_⟩;have ok:=hk w (.head _);have ow:=ok.m;rw[xt,xQ]at hm;rw[vP]at ha
   match w,ok,ow,hm,ha with
   | .s x,ok,ow,hm,ha=>
    refine⟨_,_,(rest.map W.m).sum,zA1 zSc (zAl (tt_b rfl) (zSd (w:=.s x) (by nofun) (zA4 rfl))),by nofun,acc++[x],rest,_,rfl,rfl,λp hp=>hk p (.tail _ hp),?_,rfl,?_⟩
    ·rw[<- ha];simp[W.t]
    ·rw[xk,xG];lia
   | .r q,⟨k,hq⟩,ow,hm,ha=>
    match k,hq with
    | k+1,hq=>
    obtain⟨w1,l1,eq⟩:=hq.tup;obtain⟨ps,hd,hp,hs⟩:=hq;have pz:∀p∈ps,1<=p.sz:=λp hp'=>(hp p hp').pos'
    obtain⟨fr,hf,ef,fl⟩:=zRn hd;obtain⟨bm,bl⟩:=bw_m pz;have okb:∀w∈bw ps,okW w:=λw hw=>by
     cases ps with
     | nil=>cases hw
     | cons p r=>
      rcases xr.mp hw with rfl|hw
      ·exact⟨k,hp p (.head _)⟩
      ·rcases xH.mp hw with hw|hw
       ·obtain⟨q,hq,hw⟩:=List.mem_flatMap.mp hw;simp only[xr,xJ,xK]at hw;rcases hw with rfl|rfl
        ·show 1<=30;decide
        ·exact⟨k,hp q (.tail _ hq)⟩
       ·rw[xx.mp hw];show 1<=30;decide
    have lr:=zRc λw hw=>hk w (.tail _ hw)
    have qm:(W.r q).m=2*q.sz-1:=rfl;have psl:ps.length<=(ps.map It.sz).sum:=by
     have:∀l:List It,(∀p∈l,1<=p.sz)->l.length<=(l.map It.sz).sum:=λl=>by
      induction l with
      | nil=>exact λ_=>xh _
      | cons a l ih=>
       intro h;have h1:=ih λp hp=>h p (.tail _ hp)
       have h2:=h a (.head _);rw[xt,xQ,xv];lia
     exact this ps pz
    have i1:tTru (eCB isiB (zA0 (eVar 3) (zA0 (eC (.ty "str")) aNil))) [some v,some (.ref S.length),some (.ref (S.length+1)),some q.d] (stk S acc rest)=.ok false (stk S acc rest):=by rw[eq];rfl
    have bh:=zPf (S:=stk S (acc++[fr]) rest) hd (λp hp'=>(hp p hp').low) (by nofun);have rv:eUn revL (zA3 zAx (zA0 (eVar 3) aNil)) [some v,some (.ref S.length),some (.ref (S.length+1)),some q.d] (stk S (acc++[fr]) rest)=.ok (.lst ((bw ps).map W.d).reverse) (stk S (acc++[fr]) rest):=zTk (zA8 (zAa (zA4 rfl)) bh) rfl;have ex:=zWa (m:=((bw ps).map W.d).reverse) (stk2 (S:=S) (acc:=acc++[fr]) (todo:=rest)) (by rw[xp,vS,vS,xp];lia);rw[show rest.reverse.map W.d++((bw ps).map W.d).reverse=(bw ps++rest).reverse.map W.d by simp,zJq]at ex;refine⟨_,_,((bw ps++rest).map W.m).sum,zA1 zSc (zA7 i1 (zA1 (zSd (w:=.r q) (by nofun) (zA8 (zAa (zA4 rfl)) (hf _))) ?_)),by rw[xP,List.sum_append];lia,acc++[fr],bw ps++rest,some q.d,rfl,rfl,λp hp'=>?_,?_,rfl,by rw[xP,List.sum_append,xk,xG];lia⟩
    ·show zAp (eMt "list" zB8 (eVar 2) (zA0 (eUn revL (zA3 zAx (zA0 (eVar 3) aNil))) aNil)) [some v,some (.ref S.length),some (.ref (S.length+1)),some q.d] (stk S (acc++[fr]) rest)=_;rw[zAp,zCr (S:=stk S (acc++[fr]) rest) (env:=[some v,some (.ref S.length),some (.ref (S.length+1)),some q.d]) (c:=S.length+1) rfl stk2 (zAa rv) ex];rfl
    ·rcases xH.mp hp' with z|z
     ·exact okb p z
     ·exact hk p (.tail _ z)
    ·rw[<- ha,uA,bw_t,show(W.r q).t=q.pc.flatten from rfl,ef];simp) (2*t.sz-1) (env:=[some v,some (.ref S.length),some (.ref (S.length+1)),none]) (S:=stk S [] [.r t]) ⟨[],[.r t],none,rfl,rfl,(λp hp=>by rw[xx.mp hp];exact⟨n,h⟩),by simp[W.t],by simp[W.m],by show 0+(2*t.sz-1)<=1800;lia⟩
 have z:todo=[]:=by have:=zRc hk;exact uZ.mp (by nofun)
 subst z;rw[List.flatMap_nil,xY]at ha;refine zD4 (T:=[.lst (acc.map λx=>D.str (mk x)),.lst []]) rfl (zA1 (e:=[some v,some (.ref S.length),none,none]) (S1:=S++[.lst []]) rfl (zA1 (e:=[some v,some (.ref S.length),some (.ref (S.length+1)),none]) (S1:=stk S [] [.r t]) ?_ (zA1 e (zAh ?_)))) rfl
 ·show SR.nx [some v,some (.ref S.length),some (.ref (S++[D.lst []]).length),none] ((S++[D.lst []])++[.lst [v]])=_;rw[xk,vW,hv];rfl
 ·have j:joinM (stk S acc []) (.str (PySem.Str.ofString "")) [.ref S.length]=some (.str (mk t.pc.flatten),stk S acc []):=by
   have sm:((acc.map mk).map λy:Str=>y.length).sum=acc.flatten.length:=by rw[xU,List.length_flatten];congr 1
   show(match(match look (stk S acc []) (.ref S.length)with|some (.lst l)=>strsOf l|_=>none)with|some ys=>if(PySem.Str.ofString "").length<=16/\(ys.map λy:Str=>y.length).sum+ys.length<=1048576 then some (D.str (PySem.Txt.join (PySem.Str.ofString "") ys),stk S acc [])else none|none=>none)=_;rw[zB4 stk1];dsimp only;rw[show(acc.map λx=>D.str (mk x))=(acc.map mk).map D.str by simp,zBr];dsimp only;rw[xc ⟨by decide,by rw[sm,ha,xp];lia⟩,zNr,ha]
  exact zCq rfl (zAa (zA4 rfl)) j
noncomputable abbrev L26:Str:=PySem.Str.ofString "abcdefghijklmnopqrstuvwxyz"
theorem l26:(ls L26).length=26:=by decide +kernel
noncomputable abbrev sp8:List Str:=[so "alla",so "anyx",so "att",so "byby",so "thens",so "least",so "cell",so "name"]
def Lt(l:List Nat):Prop:=∀c∈l,97<=c/\c<=122
theorem Lt.app{a b:List Nat}(h:Lt a)(k:Lt b):Lt (a++b):=λc hc=>(xH.mp hc).elim (h c) (k c)
theorem zSq{r:Int}(r0:0<=r)(r9:r<26):∃c:Nat,(97<=c/\c<=122)/\ixD S (.str L26) (.int r)=some (.str (mk [c])):=by
 have k:r.toNat<(ls L26).length:=by rw[l26];lia
 have al:∀c∈ls L26,97<=c/\c<=122:=by decide +kernel
 refine⟨(ls L26)[r.toNat],al _ (List.getElem_mem k),?_⟩;show(if L26.length<=most then(atL (ls L26) r).map λc=>D.str ⟨#[c]⟩else none)=_;rw[xc (xq (show L26.length<=26 by decide +kernel) (by decide))];unfold atL ixN;rw[xc r0,xc (by rw[l26];exact r9)];show((ls L26)[r.toNat]?).map _=_;rw[xo k];rfl
theorem zT3{α:Type}(l:List α){b:Int}(h:0<=b):cutL l none (some b)=l.take b.toNat:=by
 unfold cutL sIx;dsimp only;rw[xf (by nofun),List.drop_zero];rcases Nat.le_total b.toNat l.length with c|c
 ·rw[ug c];rfl
 ·rw[Nat.min_eq_right c,uK (by nofun),uK c]
theorem yB3{l:List Nat}{a:Int}(h:l.length<=100000)(ha:0<=a):slS S (.str (mk l)) none (some a)=some (.str (mk (l.take a.toNat))):=by show(if _ then some (D.str ⟨(cutL (ls (mk l)) none (some a)).toArray⟩)else none)=_;rw[xc ⟨(λv e=>by cases e),(λv e=>by cases e;exact ha),by rw[zB2];exact h⟩,zBh,zT3 _ ha];rfl
noncomputable abbrev nD (x:List Nat):D:=.str (mk x)
def Nk(j:Nat)(x:List Nat):Prop:=Lt x/\1<=x.length/\x.length<=if j % 4=3 then 7 else 6
noncomputable abbrev naB:SM:=sSeq (zAp (eMt "list" zAi (eVar 6) (zA0 (eOp addD (eOp addD (eSl slS (eVar 3) pNo (pYes (eVar 4))) (eOp ixD (eVar 2) (eOp modD (eOp addD (eVar 5) (eOp mulS (eC (.int 7)) (eVar 7))) (eC (.int 26))))) (eSl slS (eVar 3) (pYes (eVar 4)) pNo)) aNil)))
  (sIf (tB (eOp eqI (eOp modD (eVar 7) (eC (.int 4))) (eC (.int 3)))) (sPut putD (eVar 6) (eVar 7) (eOp addD (eOp ixD (eVar 6) (eOp subD (eVar 7) (eC (.int 1)))) (eC (.str (PySem.Str.ofString "z"))))) zAd)
noncomputable abbrev naE (c n:Nat) (a0:D) (core:List Nat) (p t:Int) (o7 o8:Option D):Env:=[some (.ref c),some a0,some (.str L26),some (nD core),some (.int p),some (.int t),some (.ref n),o7,o8]
theorem zVg{i:Nat}{core:List Nat}{l:List (List Nat)}{p t:Int}{o8:Option D}{a0:D}(h0:Feed S0 c)(mk_:MkF c S0 n (l.map nD) S)(hL:Lt core)(hc:core.length<=5)(p0:0<=p)(t0:0<=t)(t9:t<26)(hi:l.length=i)(h9:i<=40)(hl:∀j x,l[j]?=some x->Nk j x):
  ∃(l':List (List Nat)) (S':Store),naB (naE c n a0 core p t (some (.int (i:Nat))) o8) S=.nx (naE c n a0 core p t (some (.int (i:Nat))) o8) S'/\MkF c S0 n (l'.map nD) S'/\l'.length=i+1/\∀j x,l'[j]?=some x->Nk j x:=by
 have m7:mulS S (.int 7) (.int (i:Nat))=some (.int (7*(i:Nat))):=(show mulS S (.int 7) (.int (i:Nat))=mulD S (.int 7) (.int (i:Nat))from rfl).trans (zFh (by decide) (by nofun));have md:modD S (.int (t+7*(i:Nat))) (.int 26)=some (.int ((t+7*(i:Nat)) % 26)):=zC9 (by decide);have r0:=vX (t+7*((i:Nat):Int)) (b:=26) (by decide);have r9:=vY (t+7*((i:Nat):Int)) (b:=26) (by decide);obtain⟨y,yl,ey⟩:=zSq (S:=S) r0 r9;obtain⟨nw,hnw⟩:∃nw,nw=core.take p.toNat++[y]++core.drop p.toNat:=⟨_,rfl⟩
 have nwl:nw.length=core.length+1:=by rw[hnw,xk,xk,vg,v5,xG];lia
 have nwL:Lt nw:=by rw[hnw];exact Lt.app (Lt.app (λc hc=>hL c (List.mem_of_mem_take hc)) λc hc=>by rw[xx.mp hc];exact yl) λc hc=>hL c (List.mem_of_mem_drop hc)
 have x1:eSl slS (eVar 3) pNo (pYes (eVar 4)) (naE c n a0 core p t (some (.int (i:Nat))) o8) S=.ok (.str (mk (core.take p.toNat))) S:=by show lift (slS S (.str (mk core)) none (some p)) S=_;rw[yB3 (by nofun) p0];rfl
 have x2:eSl slS (eVar 3) (pYes (eVar 4)) pNo (naE c n a0 core p t (some (.int (i:Nat))) o8) S=.ok (.str (mk (core.drop p.toNat))) S:=by show lift (slS S (.str (mk core)) (some p) none) S=_;rw[zXo (by nofun) p0];rfl
 have x3:=zAo (zAo x1 (zA5 (g:=ixD) (a:=eVar 2) (x:=.str L26) rfl (zA5 (g:=modD) (zA5 (g:=addD) (a:=eVar 5) (x:=.int t) rfl (zA5 (g:=mulS) (a:=eC (.int 7)) (b:=eVar 7) rfl rfl m7) rfl) (b:=eC (.int 26)) rfl md) ey) (by rw[vg,xG];lia)) x2 (by rw[xk,vg,xG,v5];lia);rw[<- hnw]at x3;have ap:=yAx (d:=nD nw) mk_.at_ (by rw[xp];lia);have mk1:=mk_.put h0 (l.map nD++[nD nw]);have el:l.map nD++[nD nw]=(l++[nw]).map nD:=by simp
 rw[el]at ap mk1;have s1:zAp (eMt "list" zAi (eVar 6) (zA0 (eOp addD (eOp addD (eSl slS (eVar 3) pNo (pYes (eVar 4))) (eOp ixD (eVar 2) (eOp modD (eOp addD (eVar 5) (eOp mulS (eC (.int 7)) (eVar 7))) (eC (.int 26))))) (eSl slS (eVar 3) (pYes (eVar 4)) pNo)) aNil)) (naE c n a0 core p t (some (.int (i:Nat))) o8) S=.nx (naE c n a0 core p t (some (.int (i:Nat))) o8) (S.set n (.lst ((l++[nw]).map nD))):=by rw[zAp,eMt,zA4 (d:=.ref n) rfl,Rs.bind_ok,xc (ty_D mk_.at_),zAa x3,Rs.bind_ok,ap];rfl
 have m4:∀S,modD S (.int (i:Nat)) (.int 4)=some (.int ((i:Int) % 4)):=λS=>zC9 (by decide)
 have old:∀(w:List Nat),Nk i w->∀j x,(l++[w])[j]?=some x->Nk j x:=λw hw j x e=>by
  by_cases hj:j<l.length
  ·rw[xN hj]at e;exact hl j x e
  ·rw[xM (by nofun)]at e;have:j-l.length<1:=(xC.mp e).1;have ej:j=i:=by nofun
   subst ej;rw[hi,vH]at e;cases e;exact hw
 by_cases z3:(i:Int) % 4=3
 ·have tt:tB (eOp eqI (eOp modD (eVar 7) (eC (.int 4))) (eC (.int 3))) (naE c n a0 core p t (some (.int (i:Nat))) o8) (S.set n (.lst ((l++[nw]).map nD)))=.ok true (S.set n (.lst ((l++[nw]).map nD))):=by
   rw[zAt (zA5 (zA5 (zA4 rfl) rfl (m4 _)) rfl zCa),xj z3]
  obtain⟨j,rfl⟩:∃j:Nat,i=j+1:=⟨i-1,by nofun⟩
  obtain⟨u,hu⟩:∃u,l[j]?=some u:=⟨_,xo (by nofun)⟩
  obtain⟨uL,u1,u6⟩:=hl j u hu;rw[xf (by nofun)]at u6;have ix:=zZh mk1.at_ (k:=j) (v:=nD u) (by rw[xO,xN (by nofun),hu];rfl);have pt:=zY1 (k:=j+1) (v:=nD (u++[122])) mk1.at_ (by rw[xp,xk,xG];lia);have mk2:=mk1.put h0 (((l++[nw]).map nD).set (j+1) (nD (u++[122])));have es:((l++[nw]).map nD).set (j+1) (nD (u++[122]))=(l++[u++[122]]).map nD:=by rw[<- List.map_set,<- hi,u4 _ _ (xh _),vH];rfl
  rw[es]at pt mk2;refine⟨_,_,zA1 s1 (zAl tt ?_),mk2,by rw[xk,xG,hi],old _ ⟨uL.app λc hc=>by rw[xx.mp hc];decide,by simp,by rw[xc (by nofun),xk,xG];lia⟩⟩;have sb:eOp subD (eVar 7) (eC (.int 1)) (naE c n a0 core p t (some (.int ((j+1:Nat):Int))) o8) (S.set n (.lst ((l++[nw]).map nD)))=.ok (.int (j:Nat)) (S.set n (.lst ((l++[nw]).map nD))):=by refine zA5 (x:=.int ((j+1:Nat):Int)) (y:=.int 1) rfl rfl ?_;show some (D.int (((j+1:Nat):Int)-1))=_;rw[show((j+1:Nat):Int)-1=(j:Nat) by nofun]
  have vl:=zAo (q:=[122]) (zA5 (g:=ixD) (a:=eVar 6) (x:=.ref n) rfl sb ix) (b:=eC (.str (so "z"))) rfl (by show _+1<=_;lia);rw[sPut,vl,Rs.then_ok,zA4 (d:=.ref n) rfl,Rs.then_ok,zA4 (d:=.int ((j+1:Nat):Int)) rfl,Rs.then_ok,pt]
 ·have tt:tB (eOp eqI (eOp modD (eVar 7) (eC (.int 4))) (eC (.int 3))) (naE c n a0 core p t (some (.int (i:Nat))) o8) (S.set n (.lst ((l++[nw]).map nD)))=.ok false (S.set n (.lst ((l++[nw]).map nD))):=by
   rw[zAt (zA5 (zA5 (zA4 rfl) rfl (m4 _)) rfl zCa),xi z3]
  exact⟨_,_,zA1 s1 (zA7 tt rfl),mk1,by rw[xk,xG,hi],old _ ⟨nwL,by nofun,by rw[xf (by nofun)];lia⟩⟩
noncomputable abbrev q5:EM:=eOp inD (eVar 0) (eTup (zA0 (eC (.str (PySem.Str.ofString "all"))) (zA0 (eC (.str (PySem.Str.ofString "any"))) (zA0 (eC (.str (PySem.Str.ofString "at"))) (zA0 (eC (.str (PySem.Str.ofString "by"))) (zA0 (eC (.str (PySem.Str.ofString "then"))) aNil))))))
noncomputable abbrev qE:EM:=eOp addD (eVar 0) (eOp mulS (eC (.str (PySem.Str.ofString "q"))) (eCB intB (zA0 q5 aNil)))
noncomputable def qx (x:List Nat):List Nat:=if mk x∈w5 then [113]else []
theorem yBb{x:List Nat}(hl:x.length<=100):qE [some (nD x)] S=.ok (nD (x++qx x)) S:=by
 have i1:q5 [some (nD x)] S=.ok (.bl (decide (mk x∈w5))) S:=zA5 rfl rfl (in_w (l:=w5));have i2:eCB intB (zA0 q5 aNil) [some (nD x)] S=.ok (.int (if decide (mk x∈w5)=true then 1 else 0)) S:=by rw[eCB,zAa i1,Rs.bind_ok];rfl
 have m1:mulS S (.str (so "q")) (.int (if decide (mk x∈w5)=true then 1 else 0))=some (nD (qx x)):=by
  unfold qx;by_cases cw:mk x∈w5
  ·rw[xj cw,xc rfl,xc cw];rfl
  ·rw[xi cw,xf (by decide),xf cw];rfl
 have ql:(qx x).length<=1:=by unfold qx;split <;> simp
 exact zAo (zA4 rfl) (zA5 (x:=.str (so "q")) rfl i2 m1) (by nofun)
theorem yBc{x:List Nat}(h:Lt x)(h1:1<=x.length)(h7:x.length<=7):Nmo (mk (x++qx x)):=by
 have w4l:∀s∈w5,s.length<=4:=by decide +kernel
 have wq:∀s∈w5,mk (ls s++[113]) ∉ w5:=by decide +kernel
 unfold qx;by_cases c:mk x∈w5
 ·rw[xc c];have:=w4l _ c;rw[zB2]at this;have nw:=wq _ c;rw[zBh]at nw;exact⟨by rw[zB2];simp,by rw[zB2,xk,xG];lia,by rw[zBh];exact h.app λc hc=>by rw[xx.mp hc];decide,nw⟩
 ·rw[xf c,xY];exact⟨by rw[zB2];exact h1,by rw[zB2];lia,by rw[zBh];exact h,c⟩
theorem zXn:∀s∈sp8,Nmo s:=λs hs=>by
 have:∀s∈sp8,1<=s.length/\s.length<=8/\(∀c∈ls s,97<=c/\c<=122)/\s ∉ w5:=by decide +kernel
 obtain⟨a,b,c,d⟩:=this s hs;exact⟨a,b,c,d⟩
theorem zZ5{c m:Nat}(hm:1<=m/\m<=40)(h:Feed S c):∃(l:List Str) (S':Store),zC7 [.ref c,.int (m:Nat)] S=.ok (.lst (l.map D.str)) S'/\l.length=m/\(∀s∈l,Nmo s)/\Feed S' c/\Only c c S S':=by
 obtain⟨a0,ha0⟩:∃a0:D,a0=.int (m:Nat):=⟨_,rfl⟩
 rw[<- ha0];obtain⟨k,S1,e1,k0,k9,f1,o1⟩:=taken (many:=6) (by decide) (by decide) h;obtain⟨kn,rfl⟩:∃kn:Nat,k=kn:=⟨k.toNat,by nofun⟩
 obtain⟨ys,S2,e2,l2,b2,f2,o2⟩:=zIt (h:=fun(i:Nat)=>D.int (i:Int)) (k:=λc:Nat=>nD [c]) (own:=1) (ix:=[2,0]) (i:=zBx (zA0 (zA3 zA2 (zA0 (eVar 0) (zA0 (eC (.int 6)) aNil))) aNil)) (g:=gName 0) (e:=eOp ixD (eVar 1) (zA3 zA2 (zA0 (eVar 2) (zA0 (eC (.int 26)) aNil)))) (S:=S1) (S0:=S) (env:=[some (.ref c),some a0,some (.str L26),none,none,none,none,none,none]) (xs:=List.range kn) (gd:=[]) (λenv=>∃x,env=[x,some (.str L26),some (.ref c)]) (λS'=>Feed S' c/\Only c c S S') (λy:Nat=>97<=y/\y<=122) (zCe (zC8 rfl e1) (by nofun)) (λ_ _=>zB1) ⟨none,rfl⟩ ⟨f1,o1⟩ (xq (show _<=100 by rw[vj];lia) (by decide)) (λi _ env S' he hj=>by
  obtain⟨x,rfl⟩:=he;obtain⟨r,T1,d1,r0,r9,g1,p1⟩:=taken (many:=26) (by decide) (by decide) hj.1;obtain⟨y,yl,ey⟩:=zSq (S:=T1) r0 r9;exact⟨[some (.int (i:Int)),some (.str L26),some (.ref c)],y,T1,rfl,⟨_,rfl⟩,zA5 (x:=.str L26) rfl (zC8 rfl d1) ey,yl,g1,hj.2.trans p1⟩)
 rw[vj]at l2;have cL:Lt ys:=b2;have cl:ys.length<=5:=by nofun
 have fl1:∀l:List Nat,(l.map λc=>[c]).flatten=l/\((l.map λc=>mk [c]).map λy:Str=>y.length).sum=l.length:=λl=>by
  induction l with
  | nil=>exact⟨rfl,rfl⟩
  | cons a l ih=>exact⟨by rw[xt,v9,ih.1];rfl,by rw[xt,xt,xQ,ih.2,zB2];simp;lia⟩
 have jn:=zGd (S:=S2) (sep:=so "") (ys:=ys.map λc=>mk [c]) (by decide) (by rw[(fl1 ys).2,xp];lia);rw[show PySem.Txt.join (so "") (ys.map λc=>mk [c])=mk ys by
  have:=zNr (ys.map λc=>[c]);rw[(fl1 ys).1,xU]at this;exact this,xU]at jn
 have x3:sSet 3 (eMt "str" joinM (eC (.str (PySem.Str.ofString ""))) (zA0 (zAv 1 [2,0] (zBx (zA0 (zA3 zA2 (zA0 (eVar 0) (zA0 (eC (.int 6)) aNil))) aNil)) (gName 0) tYes (eOp ixD (eVar 1) (zA3 zA2 (zA0 (eVar 2) (zA0 (eC (.int 26)) aNil))))) aNil)) [some (.ref c),some a0,some (.str L26),none,none,none,none,none,none] S=.nx [some (.ref c),some a0,some (.str L26),some (nD ys),none,none,none,none,none] S2:=by rw[sSet,zCq rfl (zAa e2) jn];rfl
 obtain⟨p,S3,e3,p0,p9,f3,o3⟩:=taken (many:=(ys.length:Int)+1) (by(lia)) (by(lia)) f2;have x4:sSet 4 (zA3 zA2 (zA0 (eVar 0) (zA0 (eOp addD (eCB lenB (zA0 (eVar 3) aNil)) (eC (.int 1))) aNil))) [some (.ref c),some a0,some (.str L26),some (nD ys),none,none,none,none,none] S2=.nx [some (.ref c),some a0,some (.str L26),some (nD ys),some (.int p),none,none,none,none] S3:=by simp_arith [zNj (S:=S2) (l:=ys) (by nofun),e3]
 obtain⟨t,S4,e4,t0,t9,f4,o4⟩:=taken (many:=26) (by decide) (by decide) f3;have x5:sSet 5 (zA3 zA2 (zA0 (eVar 0) (zA0 (eC (.int 26)) aNil))) [some (.ref c),some a0,some (.str L26),some (nD ys),some (.int p),none,none,none,none] S3=.nx [some (.ref c),some a0,some (.str L26),some (nD ys),some (.int p),some (.int t),none,none,none] S4:=by rw[sSet,zC8 rfl e4];rfl
 have g4:=((o2.trans o3).trans o4).grow;have mk0:MkF c S S4.length (([]:List (List Nat)).map nD) (S4++[.lst []]):=MkF.new h f4 g4 [];obtain⟨env',S5,e5,l,o7,rfl,mk_,ll,lb⟩:=zK7 (h:=λi:Nat=>D.int (i:Int)) (gd:=[]) (g:=gName 7) (b:=naB) (ys:=List.range m) (λZ env T=>∃(l:List (List Nat)) (o7:Option D),env=naE c S4.length a0 ys p t o7 none/\MkF c S S4.length (l.map nD) T/\l.length=Z.length/\∀j x,l[j]?=some x->Nk j x) (λ_ _ _ _=>zB1) (λZ i Y eq env T hh=>by
  obtain⟨l,o7,rfl,mk_,ll,lb⟩:=hh;have hi:i=Z.length/\Z.length<m:=by have e:=congrArg (·[Z.length]?) eq;have l:=congrArg List.length eq;rw[vj,xk,xv]at l;simp only[xM (xh _),vH,uQ]at e;rw[uX (by nofun)]at e;exact⟨(xB e).symm,by nofun⟩
  obtain⟨rfl,zm⟩:=hi;obtain⟨l',S',e,mk',ll',lb'⟩:=zVg (o8:=none) (a0:=a0) h mk_ cL cl p0 t0 t9 ll (by nofun) lb;exact⟨_,_,_,rfl,e,l',_,rfl,mk',by rw[ll',xk,xG],lb'⟩) (List.range m) [] (naE c S4.length a0 ys p t none none) (S4++[.lst []]) rfl ⟨[],none,rfl,mk0,rfl,λj x h=>nomatch h⟩
 rw[vj]at ll;have lt:S4.length<S5.length:=(xC.mp mk_.at_).1;have lN:∀x∈l,Lt x/\1<=x.length/\x.length<=7:=λx hx=>by
  obtain⟨j,hj⟩:=uu.mp hx;obtain⟨a,b,d⟩:=lb j x hj;exact⟨a,b,by split at d <;> lia⟩
 have e6:zAv 1 [] (iVal (eVar 6)) (gName 0) tYes qE (naE c S4.length a0 ys p t o7 none) S5=.ok (.lst (l.map λx=>nD (x++qx x))) S5:=by refine zCw (xs:=l) (h:=nD) (gd:=[(S4.length,.lst (l.map nD))]) (λenv=>∃x,env=[x]) (by rw[iVal,zA4 (d:=.ref S4.length) rfl,Rs.bind_ok,zPt mk_.at_];rfl) (zW2 mk_.at_) ⟨none,rfl⟩ (xq (show _<=100 by rw[ll];lia) (by decide)) ?_;rintro x hx env ⟨o,rfl⟩;exact⟨[some (nD x)],rfl,⟨_,rfl⟩,yBb (by have:=(lN x hx).2.2;lia)⟩
 obtain⟨zs,hzs⟩:∃zs:List Str,zs=l.map λx=>mk (x++qx x):=⟨_,rfl⟩
 have zN:∀s∈zs,Nmo s:=λs hs=>by
  rw[hzs]at hs;obtain⟨x,hx,rfl⟩:=xE.mp hs;obtain⟨a,b,d⟩:=lN x hx;exact yBc a b d
 have zl:zs.length=m:=by rw[hzs,xp,ll]
 rw[show(l.map λx=>nD (x++qx x))=zs.map D.str by rw[hzs,xU];rfl]at e6;have mk1:MkF c S S5.length (zs.map D.str) (S5++[.lst (zs.map D.str)]):=MkF.new h mk_.feed mk_.grow _;have x7:sSet 6 (eNew (zAv 1 [] (iVal (eVar 6)) (gName 0) tYes qE)) (naE c S4.length a0 ys p t o7 none) S5=.nx (naE c S5.length a0 ys p t o7 none) (S5++[.lst (zs.map D.str)]):=by rw[sSet,eNew,e6];rfl
 obtain⟨u,S7,e7,u0,u9,f7,o7'⟩:=taken (many:=8) (by decide) (by decide) mk1.feed;have mk2:=mk1.take h f7 o7';obtain⟨w,wm,ew⟩:=zT5 (l:=sp8) u0 u9;have x8:sSet 8 (eOp ixD (eLst (zA0 (eC (.str (PySem.Str.ofString "alla"))) (zA0 (eC (.str (PySem.Str.ofString "anyx"))) (zA0 (eC (.str (PySem.Str.ofString "att"))) (zA0 (eC (.str (PySem.Str.ofString "byby"))) (zA0 (eC (.str (PySem.Str.ofString "thens"))) (zA0 (eC (.str (PySem.Str.ofString "least"))) (zA0 (eC (.str (PySem.Str.ofString "cell"))) (zA0 (eC (.str (PySem.Str.ofString "name"))) aNil))))))))) (zA3 zA2 (zA0 (eVar 0) (zA0 (eC (.int 8)) aNil)))) (naE c S5.length a0 ys p t o7 none) (S5++[.lst (zs.map D.str)])=.nx (naE c S5.length a0 ys p t o7 (some (.str w))) S7:=by have q:eOp ixD (eLst (zA0 (eC (.str (PySem.Str.ofString "alla"))) (zA0 (eC (.str (PySem.Str.ofString "anyx"))) (zA0 (eC (.str (PySem.Str.ofString "att"))) (zA0 (eC (.str (PySem.Str.ofString "byby"))) (zA0 (eC (.str (PySem.Str.ofString "thens"))) (zA0 (eC (.str (PySem.Str.ofString "least"))) (zA0 (eC (.str (PySem.Str.ofString "cell"))) (zA0 (eC (.str (PySem.Str.ofString "name"))) aNil))))))))) (zA3 zA2 (zA0 (eVar 0) (zA0 (eC (.int 8)) aNil))) (naE c S5.length a0 ys p t o7 none) (S5++[.lst (zs.map D.str)])=.ok (.str w) S7:=zA5 (x:=.lst (sp8.map D.str)) rfl (zC8 rfl e7) ew;rw[sSet,q];rfl
 obtain⟨r3,S8,e8,r0,r9,f8,o8'⟩:=taken (many:=3) (by decide) (by decide) f7;have mk3:=mk2.take h f8 o8';have tt:tAnd (tB (eOp eqI (zA3 zA2 (zA0 (eVar 0) (zA0 (eC (.int 3)) aNil))) (eC (.int 1)))) (tB (eOp zDj (eVar 8) (eVar 6))) (naE c S5.length a0 ys p t o7 (some (.str w))) S7=.ok (decide (r3=1) && !decide (w∈zs)) S8:=by
  refine zGy (p:=r3=1) (zAt (zA5 (zC8 rfl e8) rfl zCa)) (λz=>by rw[xi z];rfl) λz=>?_
  rw[xj z];exact zAt (zA5 rfl rfl (zVe mk3.at_))
 have lo:∀l:List Str,(D.lst (l.map D.str)).low S.length=true:=λl=>zBi λd hd=>by obtain⟨x,_,rfl⟩:=xE.mp hd;rfl
 suffices fin:∃(l:List Str) (T:Store),(sIf (tAnd (tB (eOp eqI (zA3 zA2 (zA0 (eVar 0) (zA0 (eC (.int 3)) aNil))) (eC (.int 1)))) (tB (eOp zDj (eVar 8) (eVar 6)))) (sPut putD (eVar 6) (zA3 zA2 (zA0 (eVar 0) (zA0 (eVar 1) aNil))) (eVar 8)) zAd) (naE c S5.length a0 ys p t o7 (some (.str w))) S7=.nx (naE c S5.length a0 ys p t o7 (some (.str w))) T/\MkF c S S5.length (l.map D.str) T/\l.length=m/\∀s∈l,Nmo s by
  obtain⟨l',T,e9,mk9,l9,n9⟩:=fin;obtain⟨S'',e,a,b⟩:=zIz (np:=2) (nl:=9) (b:=zE2) (ds:=[.ref c,a0]) (S':=T) (n:=S5.length) rfl (by
   refine zA1 (e:=[some (.ref c),some a0,some (.str L26),none,none,none,none,none,none]) (S1:=S) rfl (zA1 x3 (zA1 x4 (zA1 x5 (zA1 (e:=naE c S4.length a0 ys p t none none) (S1:=S4++[.lst []]) rfl (zA1 ?_ (zA1 x7 (zA1 x8 (zA1 e9 (zAh rfl)))))))));rw[sFor,zCe (n:=m) (by rw[zA4 (d:=a0) rfl,ha0]) (by nofun),Rs.then_ok];exact e5) h mk9.feed mk9.grow mk9.far mk9.at_ (lo _)
  exact⟨l',S'',e,l9,n9,a,b⟩
 cases hb:(decide (r3=1) && !decide (w∈zs))with
 | false=>
  rw[hb]at tt;exact⟨zs,S8,zO0 tt rfl,mk3,zl,zN⟩
 | true=>
  rw[hb]at tt;obtain⟨j,S9,e9,j0,j9,f9,o9⟩:=taken (many:=(m:Int)) (by(lia)) (by(lia)) f8;have mk4:=mk3.take h f9 o9;obtain⟨jn',rfl⟩:∃jn':Nat,j=jn':=⟨j.toNat,by nofun⟩
  have pt:=zY1 (k:=jn') (v:=.str w) mk4.at_ (by rw[xp];lia);have mk5:=mk4.put h ((zs.map D.str).set jn' (.str w));rw[zQ4]at pt mk5;refine⟨_,_,zNz tt ?_,mk5,by rw[v8];exact zl,λs hs=>?_⟩
  ·have c1:zA3 zA2 (zA0 (eVar 0) (zA0 (eVar 1) aNil)) (naE c S5.length a0 ys p t o7 (some (.str w))) S8=.ok (.int (jn':Nat)) S9:=zA8 (zAk rfl (zAa rfl)) (by rw[ha0];exact e9);rw[sPut,zA4 (d:=.str w) rfl,Rs.then_ok,zA4 (d:=.ref S5.length) rfl,Rs.then_ok,c1,Rs.then_ok,pt]
  ·rcases List.mem_or_eq_of_mem_set hs with z|z
   ·exact zN s z
   ·rw[z];exact zXn w wm
mutual
def sz:D->Nat
 | .tup l=>szL l+1
 | _=>1
def szL:List D->Nat
 | []=>0
 | d::l=>sz d+szL l
end
mutual
def nz:D->Bool
 | .tup l=>nzL l
 | .int _=>true
 | .str _=>true
 | _=>false
def nzL:List D->Bool
 | []=>true
 | d::l=>nz d && nzL l
end
theorem zXl(d:D):1<=sz d:=by cases d <;> simp[sz]
theorem zIc:∀(a b:List D),szL (a++b)=szL a+szL b
 | [],b=>by simp[szL]
 | d::a,b=>by rw[vG,szL,zIc a b,szL];lia
theorem zFy:∀(a:List D),a.length<=szL a
 | []=>by simp[szL]
 | d::a=>by have:=zFy a;have:=zXl d;rw[szL,xv];lia
theorem zIi:∀(a b:List D),nzL (a++b)=(nzL a && nzL b)
 | [],b=>by simp[nzL]
 | d::a,b=>by rw[vG,nzL,zIi a b,nzL,Bool.and_assoc]
noncomputable abbrev dbl (d:D):D:=.tup [d,d]
theorem zTd(m:List D):((m.zip m).map λp=>D.tup [p.1,p.2])=m.map dbl:=by
 induction m with
 | nil=>rfl
 | cons a m ih=>rw[List.zip_cons_cons,xt,ih];rfl
theorem zJt{S:Store}:(S++[x]).set S.length y=S++[y]:=by simp
theorem zDv{S:Store}:(S++[x])[S.length]?=some x:=by simp
section
variable {S:Store}
theorem i_ib{n:Int}:isiB S [.int n,.ty "bool"]=some (.bl false):=rfl
theorem i_ii{n:Int}:isiB S [.int n,.ty "int"]=some (.bl true):=rfl
theorem i_it{n:Int}:isiB S [.int n,.ty "tuple"]=some (.bl false):=rfl
theorem i_is{n:Int}:isiB S [.int n,.ty "str"]=some (.bl false):=rfl
theorem i_sb :isiB S [.str n,.ty "bool"]=some (.bl false):=rfl
theorem i_si :isiB S [.str n,.ty "int"]=some (.bl false):=rfl
theorem i_st :isiB S [.str n,.ty "tuple"]=some (.bl false):=rfl
theorem i_ss :isiB S [.str n,.ty "str"]=some (.bl true):=rfl
theorem i_tb :isiB S [.tup n,.ty "bool"]=some (.bl false):=rfl
theorem i_ti :isiB S [.tup n,.ty "int"]=some (.bl false):=rfl
theorem i_tt :isiB S [.tup n,.ty "tuple"]=some (.bl true):=rfl
theorem i_ts :isiB S [.tup n,.ty "str"]=some (.bl false):=rfl
theorem nk_b :neK S (.bl b) (.bl b)=some (.bl false):=by show some (D.bl (!decide (b=b)))=_;rw[xj rfl];rfl
theorem nk_i{b:Int}:neK S (.int b) (.int b)=some (.bl false):=by show some (D.bl (!decide (b=b)))=_;rw[xj rfl];rfl
theorem nk_s :neK S (.str b) (.str b)=some (.bl false):=by show some (D.bl (!decide (b=b)))=_;rw[xj rfl];rfl
end
noncomputable abbrev aB:SM:=(sSeq (sUnp (gTup [(gName 3),(gName 4)]) (eMt "list" popM (eVar 2) aNil))
  (sSeq (sIf (tOr (tB (eOp neK (eCB isiB (zA0 (eVar 3) (zA0 (eC (.ty "bool")) aNil))) (eCB isiB (zA0 (eVar 4) (zA0 (eC (.ty "bool")) aNil))))) (tB (eOp neK (eCB isiB (zA0 (eVar 3) (zA0 (eC (.ty "tuple")) aNil))) (eCB isiB (zA0 (eVar 4) (zA0 (eC (.ty "tuple")) aNil)))))) (sRet (eC (.bl false))) zAd)
  (sSeq (sIf (tOr (tB (eOp neK (eCB isiB (zA0 (eVar 3) (zA0 (eC (.ty "int")) aNil))) (eCB isiB (zA0 (eVar 4) (zA0 (eC (.ty "int")) aNil))))) (tB (eOp neK (eCB isiB (zA0 (eVar 3) (zA0 (eC (.ty "str")) aNil))) (eCB isiB (zA0 (eVar 4) (zA0 (eC (.ty "str")) aNil)))))) (sRet (eC (.bl false))) zAd)
  (sIf (tTru (eCB isiB (zA0 (eVar 4) (zA0 (eC (.ty "tuple")) aNil)))) (sSeq (sIf (tB (eOp neK (eCB lenB (zA0 (eVar 3) aNil)) (eCB lenB (zA0 (eVar 4) aNil)))) (sRet (eC (.bl false))) zAd)
  (zAp (eMt "list" zB8 (eVar 2) (zA0 (eCB zipT (zA0 (eVar 3) (zA0 (eVar 4) aNil))) aNil)))) (sIf (tB (eOp neK (eVar 3) (eVar 4))) (sRet (eC (.bl false))) zAd)))))
theorem yCu{S:Store}(hd:nz d=true)(hz:szL l+sz d<=100000):∃m,nzL m=true/\szL m+1=sz d/\aB [a,b,some (.ref S.length),o3,o4] (S++[.lst ((l++[d]).map dbl)])=.nx [a,b,some (.ref S.length),some d,some d] (S++[.lst ((l++m).map dbl)]):=by
 have ty:tyD (S++[D.lst ((l++[d]).map dbl)]) (.ref S.length)=some "list":=ty_D zDv;have pp:popM (S++[D.lst ((l++[d]).map dbl)]) (.ref S.length) []=some (dbl d,S++[D.lst (l.map dbl)]):=by unfold popM;dsimp only;rw[zDv];dsimp only;rw[zJt,xP,xk,show([d].map dbl).length=1 from rfl,Nat.add_sub_cancel,xM (xh _),vH];show some (dbl d,S++[D.lst ((l.map dbl++[dbl d]).dropLast)])=_;rw[List.dropLast_concat]
 have x1:sUnp (gTup [(gName 3),(gName 4)]) (eMt "list" popM (eVar 2) aNil) [a,b,some (.ref S.length),o3,o4] (S++[D.lst ((l++[d]).map dbl)])=.nx [a,b,some (.ref S.length),some d,some d] (S++[D.lst (l.map dbl)]):=by simp_arith [eMt,ty,pp]
 generalize hS:S++[D.lst (l.map dbl)]=S1 at x1;have ty1:tyD S1 (.ref S.length)=some "list":=by rw[<- hS];exact ty_D zDv
 cases d with
 | int n=>
  refine⟨[],rfl,rfl,zA1 x1 (zA1 (e:=[a,b,some (.ref S.length),some (.int n),some (.int n)]) (S1:=S1) (zA7 (by simp_arith [i_ib,i_it,nk_b]) rfl) (zA1 (e:=[a,b,some (.ref S.length),some (.int n),some (.int n)]) (S1:=S1) (zA7 (by simp_arith [i_ii,i_is,nk_b]) rfl) (zA7 (by simp_arith [tTru,i_it,tru]) (zA7 (by simp_arith [nk_i]) ?_))))⟩;rw[xY,hS];rfl
 | str n=>
  refine⟨[],rfl,rfl,zA1 x1 (zA1 (e:=[a,b,some (.ref S.length),some (.str n),some (.str n)]) (S1:=S1) (zA7 (by simp_arith [i_sb,i_st,nk_b]) rfl) (zA1 (e:=[a,b,some (.ref S.length),some (.str n),some (.str n)]) (S1:=S1) (zA7 (by simp_arith [i_si,i_ss,nk_b]) rfl) (zA7 (by simp_arith [tTru,i_st,tru]) (zA7 (by simp_arith [nk_s]) ?_))))⟩;rw[xY,hS];rfl
 | tup m=>
  have lm:=zFy m;have ll:=zFy l;have es:sz (.tup m)=szL m+1:=by rw[sz]
  have zp:zipT S1 [.tup m,.tup m]=some (.lst (m.map dbl)):=by show some (D.lst ((m.zip m).map λp=>.tup [p.1,p.2]))=_;rw[zTd]
  have ex:zB8 S1 (.ref S.length) [.lst (m.map dbl)]=some (.non,S++[D.lst ((l++m).map dbl)]):=by unfold zB8;dsimp only;rw[xf (by intro z;cases z),<- hS,zDv,show litems (S++[D.lst (l.map dbl)]) (.lst (m.map dbl))=some (m.map dbl)from rfl];dsimp only;rw[xc (xq (show _<=200000 by rw[xp,xp];lia) (by decide)),zJt,xP]
  refine⟨m,by rw[nz]at hd;exact hd,es.symm,zA1 x1 (zA1 (e:=[a,b,some (.ref S.length),some (.tup m),some (.tup m)]) (S1:=S1) (zA7 (by simp_arith [i_tb,i_tt,nk_b]) rfl) (zA1 (e:=[a,b,some (.ref S.length),some (.tup m),some (.tup m)]) (S1:=S1) (zA7 (by simp_arith [i_ti,i_ts,nk_b]) rfl) (zAl (by simp_arith [tTru,i_tt,tru]) (zA1 (e:=[a,b,some (.ref S.length),some (.tup m),some (.tup m)]) (S1:=S1) (zA7 (by simp_arith [zIn,nk_i]) rfl) ?_))))⟩;simp_arith [eMt,ty1,zp,ex]
 | _=>cases hd
theorem zNi{c:Nat}{l:List D}(h:S[c]?=some (.lst l)):lenB S [.ref c]=some (.int (l.length:Nat)):=by unfold lenB;dsimp only;rw[show look S (.ref c)=some (.lst l)from h]
theorem zKn(hd:nz d=true)(hz:sz d<=100000):zAs [d,d] S=.ok (.bl true) S:=by
 obtain⟨env',S',e,l,o3,o4,rfl,rfl,hn,hs,_⟩:=zM5 (c:=tB (eOp gtD (eCB lenB (zA0 (eVar 2) aNil)) (eC (.int 0)))) (b:=aB) (λn env S'=>∃(l:List D) (o3 o4:Option D),env=[some d,some d,some (.ref S.length),o3,o4]/\S++[D.lst (l.map dbl)]=S'/\nzL l=true/\szL l=n/\n<=100000) (λenv S' h=>by
   obtain⟨l,o3,o4,rfl,rfl,_,hs,_⟩:=h;have l0:l=[]:=uP (by have:=zFy l;lia);subst l0;have ln:lenB (S++[D.lst []]) [.ref S.length]=some (.int ((0:Nat):Int)):=zNi zDv;have g:∀S,gtD S (.int ((0:Nat):Int)) (.int 0)=some (.bl false):=λ_=>rfl
   simp_arith [ln,g]) (λn env S' h=>by
   obtain⟨l,o3,o4,rfl,rfl,hn,hs,hb⟩:=h;have lne:l≠[]:=λz=>by subst z;rw[szL]at hs;lia
   obtain⟨l',d',rfl⟩:∃l' d',l=l'++[d']:=⟨l.dropLast,l.getLast lne,(List.dropLast_concat_getLast lne).symm⟩
   rw[zIi,xl]at hn;rw[zIc]at hs;have s1:szL [d']=sz d':=by rw[szL,szL];lia
   have n1:nz d'=true:=by have:=hn.2;rw[nzL,nzL,ux]at this;exact this
   obtain⟨m,nm',sm',e⟩:=yCu (S:=S) (a:=some d) (b:=some d) (o3:=o3) (o4:=o4) (l:=l') n1 (by nofun);have ln:lenB (S++[D.lst ((l'++[d']).map dbl)]) [.ref S.length]=some (.int ((l'.length+1:Nat):Int)):=by rw[zNi zDv,xp,xk];rfl
   have g:∀S,gtD S (.int ((l'.length+1:Nat):Int)) (.int 0)=some (.bl true):=λ_=>by rw[gt_int,xj (by nofun)]
   refine⟨?_,_,_,szL l'+szL m,e,by nofun,l'++m,_,_,rfl,rfl,by rw[zIi,hn.1,nm'];rfl,zIc _ _,by nofun⟩;generalize S++[D.lst ((l'++[d']).map dbl)]=S1 at ln;simp_arith [ln,g]) (sz d) ⟨[d],none,none,rfl,rfl,by rw[nzL,nzL,hd];rfl,by rw[szL,szL];lia,hz⟩
 refine zD4 (T:=[D.lst (l.map dbl)]) rfl ?_ rfl;refine zA1 (e:=[some d,some d,some (.ref S.length),none,none]) (S1:=S++[D.lst ([d].map dbl)]) (by simp_arith [eNew]) (zA1 e ?_);simp_arith [xW]
end
section
open Classical
theorem Ru.nz:∀{n:Nat}{t:It},Ru n t->nz t.d=true
 | n+1,t,h=>by
  obtain⟨ps,hd,hp,_⟩:=h;refine hd.all (P:=λd=>DP.nz d=true) (L:=λl=>nzL l=true) (by unfold nzL;rfl) (λd l a b=>by unfold nzL;rw[a,b];rfl) (λl a=>by unfold DP.nz;exact a) (λ_=>by unfold DP.nz;rfl) (λ_=>by unfold DP.nz;rfl) λp hp'=>(hp p hp').nz
theorem Ru.dsz:∀{n:Nat}{t:It},Ru n t->sz t.d<=8*t.sz
 | n+1,t,h=>by
  obtain⟨ps,hd,hp,hs⟩:=h;have sm:=zJm (k:=8) (f:=λp=>DP.sz p.d) (ps:=ps) λp hp'=>(hp p hp').dsz
  have e:∀l:List It,szL (l.map It.d)=(l.map λp=>DP.sz p.d).sum:=λl=>by
   induction l with
   | nil=>simp[szL]
   | cons a l ih=>rw[xt,xt,xQ,<- ih];simp[szL]
  have e':=e ps;rw[hs,Nat.mul_add];rcases hd with⟨x,y,_,_,e1,_,e3⟩|⟨s,_,e1,_,e3⟩|⟨x,y,r,_,_,e1,_,e3⟩|⟨a,b,u,v,r,_,_,e1,_,e3⟩|⟨q,r,e1,_,e3⟩|⟨w,_,e1,_⟩|⟨k,_,e1,_⟩ <;> rw[e1] <;> (try rw[e3]at sm) <;> simp only[DP.sz,szL,xt,vp,xQ,List.sum_nil]at sm ⊢ <;> (try rw[e']) <;> (try rw[e3]) <;> (try simp only[xt,vp,xQ,List.sum_nil]) <;> lia
theorem Ru.ups{n m:Nat}(h:n<=m)(r:Ru n t):Ru m t:=by
 obtain⟨k,rfl⟩:∃k,m=n+k:=⟨m-n,by nofun⟩
 clear h
 induction k with
 | zero=>exact r
 | succ k ih=>exact ih.up
theorem zU4{t:It}(h:Ru n t)(hz:t.sz<=900):zCg [.str (T t)] S=.ok t.d S:=by
 obtain⟨w,l,e⟩:=h.tup;refine zAc rfl (zA1 (e:=[some (.str (T t)),some t.d]) (S1:=S) ?_ (zA1 (e:=[some (.str (T t)),some t.d]) (S1:=S) (zA7 ?_ rfl) rfl)) h.low
 ·unfold neS;rw[sSet,zA8 (zAa (zA4 rfl)) (yB6 h hz)];rfl
 ·have t1:tB (eOp isD (eVar 1) (eC .non)) [some (.str (T t)),some t.d] S=.ok false S:=zAt (zA5 (zA4 rfl) rfl (by rw[e];rfl));unfold neR;rw[t1];rfl
theorem zMg :zAs [.str x,.str x] S=.ok (.bl true) S:=zKn (by unfold DP.nz;rfl) (by unfold DP.sz;decide)
theorem zQ8{t:It}(h:Ru 12 t)(hz:t.sz<=900):zC5 [t.d,.bl g] S=.ok (.bl true) S:=by
 have tx_:zDc [t.d] S=.ok (.str (T t)) S:=zMc 12 t S h hz;have sh:=zTw (S:=S) h hz;have rd:=zU4 (S:=S) h hz;have al:=zKn (S:=S) h.nz (by have:=h.dsz;lia);have as:=zMg (S:=S) (x:=T t);obtain⟨v,hv⟩:∃v,v=t.d:=⟨_,rfl⟩
 rw[<- hv]at tx_ sh rd al ⊢;have a1:∀o,tNot (tTru (zA3 zAs (zA0 (zA3 zBk (zA0 (eVar 0) aNil)) (zA0 (eVar 2) aNil)))) [some v,some (.bl g),some (.str (T t)),o] S=.ok false S:=λo=>by
  rw[tNot,tt_b (zA8 (zAk (zA8 (zAa (zA4 rfl)) sh) (zAa (zA4 rfl))) as)];rfl
 refine zAc rfl (zA1 (e:=[some v,some (.bl g),some (.str (T t)),none]) (S1:=S) ?_ (zA1 (e:=[some v,some (.bl g),some (.str (T t)),none]) (S1:=S) (zA7 ?_ rfl) (zA1 (e:=[some v,some (.bl g),some (.str (T t)),some v]) (S1:=S) ?_ (zAh ?_)))) rfl
 ·rw[sSet,zA8 (zAa (zA4 rfl)) tx_];rfl
 ·show tAnd _ _ _ _=_;rw[tAnd,tNot,tt_b (b:=g) rfl,Rs.bind_ok,Rs.bind_ok];cases g
  ·exact a1 none
  ·rfl
 ·rw[sSet,zA8 (F:=neF zCg) (zAa (zA4 rfl)) (by unfold neF;rw[rd];rfl)];rfl
 ·have q1:zA3 zAs (zA0 (eVar 3) (zA0 (eVar 0) aNil)) [some v,some (.bl g),some (.str (T t)),some v] S=.ok (.bl true) S:=zA8 (zAk (zA4 rfl) (zAa (zA4 rfl))) al;have q2:zA3 zAs (zA0 (zA3 zBk (zA0 (eVar 3) aNil)) (zA0 (eVar 2) aNil)) [some v,some (.bl g),some (.str (T t)),some v] S=.ok (.bl true) S:=zA8 (zAk (zA8 (zAa (zA4 rfl)) sh) (zAa (zA4 rfl))) as;rw[eAnd,q1,Rs.bind_ok];exact q2
noncomputable abbrev cI (x y:Int):It:=⟨.tup [tx "cell",.int x,.int y],[w2 x y],1⟩
noncomputable abbrev aI (x y:Int):It:=⟨.tup [tx "at",.int x,.int y,(cI y x).d],node [[97,116],[40],w2 x y,[32]] [cI y x],2⟩
theorem yCq{x y:Int}(hx:Bx x)(hy:Bx y):Ru 1 (cI x y):=⟨[],.inl ⟨x,y,hx,hy,rfl,rfl,rfl⟩,(λp h=>nomatch h),rfl⟩
theorem yCt{x y:Int}(hx:Bx x)(hy:Bx y):Ru 2 (aI x y):=⟨[cI y x],.inr (.inr (.inl ⟨x,y,cI y x,hx,hy,rfl,rfl,rfl⟩)),(λp h=>by rw[xx.mp h];exact yCq hy hx),rfl⟩
noncomputable abbrev grL:EM:=eLst (zA0 (eOp subD (eC (.int 0)) (eC (.int 9999))) (zA0 (eC (.int 9999)) (zA0 (eC (.int 1000)) (zA0 (eOp subD (eC (.int 0)) (eC (.int 1000))) aNil))))
noncomputable abbrev grX:EM:=zAv 1 [0] (zBx (zA0 (eC (.int 2)) aNil)) (gName 0) tYes (eOp ixD grL (zA3 zA2 (zA0 (eVar 1) (zA0 (eC (.int 4)) aNil))))
noncomputable abbrev grT:EM:=eTup (zA0 (eVar 1) (zA0 (eVar 1) (zA0 (eTup (zA0 (eC (.str (PySem.Str.ofString "at"))) (zA0 (eVar 2) (zA0 (eVar 3) (zA0 (eTup (zA0 (eC (.str (PySem.Str.ofString "cell"))) (zA0 (eVar 3) (zA0 (eVar 2) aNil)))) aNil))))) (zA0 (eVar 1) aNil))))
theorem zRm{c n:Nat}{t:It}(h:Ru n t)(hn:2<=n)(hz:t.sz<=5)(hf:Feed S c):∃(g:It) (S':Store),zBa [.ref c,t.d] S=.ok g.d S'/\Ru (n+1) g/\g.sz<=900/\Feed S' c/\Only c c S S':=by
 obtain⟨v,hv⟩:∃v,v=t.d:=⟨_,rfl⟩
 rw[<- hv];obtain⟨ys,S1,e1,l1,b1,f1,o1⟩:=zIt (h:=fun(i:Nat)=>D.int (i:Int)) (k:=D.int) (own:=1) (ix:=[0]) (i:=zBx (zA0 (eC (.int 2)) aNil)) (g:=gName 0) (e:=eOp ixD grL (zA3 zA2 (zA0 (eVar 1) (zA0 (eC (.int 4)) aNil)))) (S:=S) (S0:=S) (env:=[some (.ref c),some v,none,none,none,none]) (xs:=List.range 2) (gd:=[]) (λenv=>∃x,env=[x,some (.ref c)]) (λS'=>Feed S' c/\Only c c S S') Bx (zCe (n:=2) rfl (by decide)) (λ_ _=>zB1) ⟨none,rfl⟩ ⟨hf,.refl⟩ (by decide) (λi _ env S' he hj=>by
  obtain⟨x,rfl⟩:=he;obtain⟨a,T1,d1,a0,a9,g1,p1⟩:=taken (many:=4) (by decide) (by decide) hj.1;obtain⟨w,hw,ew⟩:∃w:Int,Bx w/\atL [D.int (-9999),.int 9999,.int 1000,.int (-1000)] a=some (.int w):=by
   rcases(show a=0\/a=1\/a=2\/a=3 by nofun)with rfl|rfl|rfl|rfl
   ·exact⟨-9999,by unfold Bx;decide,rfl⟩
   ·exact⟨9999,by unfold Bx;decide,rfl⟩
   ·exact⟨1000,by unfold Bx;decide,rfl⟩
   ·exact⟨-1000,by unfold Bx;decide,rfl⟩
  exact⟨[some (.int (i:Int)),some (.ref c)],w,T1,rfl,⟨_,rfl⟩,zA5 (x:=.lst [D.int (-9999),.int 9999,.int 1000,.int (-1000)]) rfl (zC8 rfl d1) ew,hw,g1,hj.2.trans p1⟩)
 rw[vj]at l1
 match ys,l1,b1 with
 | [x,y],_,b1=>
 have hx:=b1 x (.head _);have hy:=b1 y (.tail _ (.head _));have un:sUnp (gTup [gName 2,gName 3]) grX [some (.ref c),some v,none,none,none,none] S=.nx [some (.ref c),some v,some (.int x),some (.int y),none,none] S1:=by have e1':grX [some (.ref c),some v,none,none,none,none] S=.ok (.lst ([x,y].map D.int)) S1:=e1;rw[sUnp,e1'];rfl
 obtain⟨a,S2,e2,a0,a9,f2,o2⟩:=taken (many:=4) (by decide) (by decide) f1;obtain⟨b,S3,e3,b0,b9,f3,o3⟩:=taken (many:=11) (by decide) (by decide) f2;obtain⟨d,S4,e4,d0,d9,f4,o4⟩:=taken (many:=2) (by decide) (by decide) f3;obtain⟨m,m1,m20,em⟩:∃m:Nat,1<=m/\m<=20/\atL [D.int (1+a),.int (10+b)] d=some (.int (m:Nat)):=by
  rcases(show d=0\/d=1 by nofun)with rfl|rfl
  ·exact⟨(1+a).toNat,by nofun,by nofun,by rw[show(((1+a).toNat:Nat):Int)=1+a by nofun];rfl⟩
  ·exact⟨(10+b).toNat,by nofun,by nofun,by rw[show(((10+b).toNat:Nat):Int)=10+b by nofun];rfl⟩
 have x4:sSet 4 (eOp ixD (eLst (zA0 (eOp addD (eC (.int 1)) (zA3 zA2 (zA0 (eVar 0) (zA0 (eC (.int 4)) aNil)))) (zA0 (eOp addD (eC (.int 10)) (zA3 zA2 (zA0 (eVar 0) (zA0 (eC (.int 11)) aNil)))) aNil))) (zA3 zA2 (zA0 (eVar 0) (zA0 (eC (.int 2)) aNil)))) [some (.ref c),some v,some (.int x),some (.int y),none,none] S1=.nx [some (.ref c),some v,some (.int x),some (.int y),some (.int (m:Nat)),none] S4:=by simp_arith [e2,e3,e4,em]
 obtain⟨ps,hps⟩:∃ps:List It,ps=(List.replicate 5 [t,t,aI x y,t]).flatten.take m:=⟨_,rfl⟩
 have pl:ps.length=m:=by rw[hps,vg];show min m 20=m;lia
 have pz:∀p∈ps,Ru n p/\p.sz<=5:=λp hp=>by
  rw[hps]at hp;obtain⟨l,hl,hp⟩:=List.mem_flatten.mp (List.mem_of_mem_take hp);rw[List.eq_of_mem_replicate hl]at hp;have:p=t\/p=aI x y:=by
   simp only[xr,xJ,xK]at hp;rcases hp with z|z|z|z
   ·exact .inl z
   ·exact .inl z
   ·exact .inr z
   ·exact .inl z
  rcases this with rfl|rfl
  ·exact⟨h,hz⟩
  ·exact⟨(yCt hx hy).ups hn,by show 2<=5;decide⟩
 have sm:(ps.map It.sz).sum<=5*ps.length:=by
  have:∀l:List It,(∀p∈l,p.sz<=5)->(l.map It.sz).sum<=5*l.length:=λl=>by
   induction l with
   | nil=>exact λ_=>xh _
   | cons a l ih=>
    intro h;have h1:=ih λp hp=>h p (.tail _ hp)
    have h2:=h a (.head _);rw[xt,xQ,xv];lia
  exact this ps λp hp=>(pz p hp).2
 have x5:sSet 5 (eSl slD (eOp mulT grT (eC (.int 5))) pNo (pYes (eVar 4))) [some (.ref c),some v,some (.int x),some (.int y),some (.int (m:Nat)),none] S4=.nx [some (.ref c),some v,some (.int x),some (.int y),some (.int (m:Nat)),some (.tup (ps.map It.d))] S4:=by
  have q1:grT [some (.ref c),some v,some (.int x),some (.int y),some (.int (m:Nat)),none] S4=.ok (.tup ([t,t,aI x y,t].map It.d)) S4:=by rw[hv];rfl
  have q2:eOp mulT grT (eC (.int 5)) [some (.ref c),some v,some (.int x),some (.int y),some (.int (m:Nat)),none] S4=.ok (.tup ((List.replicate 5 [t,t,aI x y,t]).flatten.map It.d)) S4:=zA5 q1 rfl (zR6 (by simp) (by decide) (by decide) (by simp));have q3:slD S4 (.tup ((List.replicate 5 [t,t,aI x y,t]).flatten.map It.d)) none (some (m:Nat))=some (.tup (ps.map It.d)):=by show some (D.tup (cutL _ none (some ((m:Nat):Int))))=_;rw[zT3 _ (by nofun),vT,<- List.map_take,hps]
  have q4:eSl slD (eOp mulT grT (eC (.int 5))) pNo (pYes (eVar 4)) [some (.ref c),some v,some (.int x),some (.int y),some (.int (m:Nat)),none] S4=.ok (.tup (ps.map It.d)) S4:=by simp only[eSl,q2,Rs.bind_ok,pNo,pYes,eVar,List.getElem?_cons_succ,uQ,asI];rw[uy,zDk,Rs.bind_ok,q3];rfl
  rw[sSet,q4];rfl
 obtain⟨k,S5,e5,k0,k9,f5,o5⟩:=taken (many:=(m:Nat)) (by(lia)) (by(lia)) f4;have ln:lenB S4 [.tup (ps.map It.d)]=some (.int (m:Nat)):=by rw[zIn,xp,pl]
 have ru:Ru (n+1) ⟨.tup [tx "least",.int (1+k),.tup (ps.map It.d)],node [nm (1+k),[40]] ps,1+(ps.map It.sz).sum⟩:=⟨ps,.inr (.inr (.inr (.inr (.inr (.inr ⟨1+k,⟨by nofun,by nofun⟩,rfl,rfl,λz=>by rw[z]at pl;simp at pl;lia,by nofun⟩))))),λp hp=>(pz p hp).1,rfl⟩;obtain⟨S6,e6,f6,o6⟩:=zBb (np:=2) (nl:=6) (b:=zE3) (ds:=[.ref c,v]) (d:=.tup [tx "least",.int (1+k),.tup (ps.map It.d)]) (S':=S5) rfl (by
  refine zA1 un (zA1 x4 (zA1 x5 (zAh ?_)));have tk:zA3 zA2 (zA0 (eVar 0) (zA0 (eCB lenB (zA0 (eVar 5) aNil)) aNil)) [some (.ref c),some v,some (.int x),some (.int y),some (.int (m:Nat)),some (.tup (ps.map It.d))] S4=.ok (.int k) S5:=zA8 (zAk (zA4 rfl) (zAa (by rw[eCB,zAa (zA4 rfl),Rs.bind_ok,ln];rfl))) e5;show eTup _ _ _=_;rw[eTup,zAk (d:=tx "least") rfl (zAk (zA5 (x:=.int 1) rfl tk rfl) (zAa (zA4 rfl)))];rfl) hf f5 ((((o1.trans o2).trans o3).trans o4).trans o5).grow ru.low
 exact⟨⟨.tup [tx "least",.int (1+k),.tup (ps.map It.d)],node [nm (1+k),[40]] ps,1+(ps.map It.sz).sum⟩,S6,e6,ru,by show 1+(ps.map It.sz).sum<=900;lia,f6,o6⟩
noncomputable abbrev rgD (p:It × Bool):D:=.tup [p.1.d,.bl p.2]
theorem rb{c:Nat}{P:List Str}(hP:P.length<=1000)(hN:∀s∈P,Nmo s)(deep room:Nat)(th:Int)(d1:1<=deep)(d2:deep<=11)(r1:1<=room)(r2:room<=60)(h:Feed S c):∃(t:It) (S':Store),zAy [.ref c,.int (room:Nat),.int (deep:Nat),.int th,.lst (P.map D.str)] S=.ok t.d S'/\Ru deep t/\t.sz<=room/\Feed S' c/\Only c c S S':=zMn hP hN 11 deep room th S d1 d2 r1 r2 h
noncomputable abbrev lwB:SM:=sSeq (sSet 3 (zA3 zCh (zA0 (eVar 0) (zA0 (eVar 2) aNil))))
  (sSeq (sSet 4 (zA3 zC7 (zA0 (eVar 3) (zA0 (eC (.int 6)) aNil))))
  (sSeq (sSet 5 (eOp ixD (eLst (zA0 (eOp addD (eC (.int 1)) (zA3 zA2 (zA0 (eVar 3) (zA0 (eC (.int 12)) aNil)))) (zA0 (eC (.int 60)) aNil))) (eCB intB (zA0 (eOp eqI (zA3 zA2 (zA0 (eVar 3) (zA0 (eC (.int 4)) aNil))) (eC (.int 1))) aNil))))
  (sSeq (sSet 6 (zA3 zAy (zA0 (eVar 3) (zA0 (eVar 5) (zA0 (eC (.int 10)) (zA0 (eC (.int 2)) (zA0 (eVar 4) aNil)))))))
  (zAp (eMt "list" zB8 (eVar 1) (zA0 (eLst (zA0 (eTup (zA0 (eVar 6) (zA0 (eC (.bl false)) aNil))) (zA0 (eTup (zA0 (zA3 zBa (zA0 (eVar 3) (zA0 (zA3 zAy (zA0 (eVar 3) (zA0 (eC (.int 5)) (zA0 (eC (.int 5)) (zA0 (eC (.int 1)) (zA0 (eVar 4) aNil)))))) aNil))) (zA0 (eC (.bl true)) aNil))) aNil))) aNil))))))
theorem zVl{ns:List Int}(hs:s=.klst (ns.map .int)){i:Nat}(hi:i<=63){L:List (It × Bool)}{o3' o4' o5' o6':Option D}(h:S[0]?=some (.lst (L.map rgD)))(hl:L.length<=900):
  ∃(t g:It) (S':Store) (o3 o4 o5 o6:Option D),lwB [some s,some (.ref 0),some (.int (i:Nat)),o3',o4',o5',o6'] S=.nx [some s,some (.ref 0),some (.int (i:Nat)),o3,o4,o5,o6] S'/\S'[0]?=some (.lst ((L++[(t,false),(g,true)]).map rgD))/\(Ru 12 t/\t.sz<=900)/\(Ru 12 g/\g.sz<=900):=by
 obtain⟨own,seed,s0,s9,ef⟩:=zW9 (S:=S) (ns:=ns) (k:=i) hi;rw[<- hs]at ef;have lt0:0<S.length:=(xC.mp h).1;have at0:(S++[.lst [.int own,.int seed]])[0]?=some (.lst (L.map rgD)):=by rw[xN lt0];exact h
 have f0:Feed (S++[.lst [.int own,.int seed]]) S.length:=⟨own,seed,by simp,s0,s9⟩;have on:∀{A B:Store},Only S.length S.length A B->A[0]?=some (.lst (L.map rgD))->B[0]?=some (.lst (L.map rgD)):=λo e=>by rw[o.at_ 0 (by nofun) (by nofun)];exact e
 obtain⟨P,S2,e2,pl,pN,f2,o2⟩:=zZ5 (m:=6) ⟨by decide,by decide⟩ f0;obtain⟨a,S3,e3,a0,a9,f3,o3_⟩:=taken (many:=12) (by decide) (by decide) f2;obtain⟨b,S4,e4,b0,b9,f4,o4_⟩:=taken (many:=4) (by decide) (by decide) f3;obtain⟨m,m1,m60,em⟩:∃m:Nat,1<=m/\m<=60/\atL [D.int (1+a),.int 60] (if decide (b=1)=true then 1 else 0)=some (.int (m:Nat)):=by
  by_cases c:b=1
  ·rw[xj c];exact⟨60,by decide,by decide,rfl⟩
  ·rw[xi c];exact⟨(1+a).toNat,by nofun,by nofun,by rw[show(((1+a).toNat:Nat):Int)=1+a by nofun];rfl⟩
 obtain⟨t,S5,e5,rt,st,f5,o5_⟩:=rb (P:=P) (by nofun) pN 10 m 2 (by decide) (by decide) m1 m60 f4;obtain⟨u,S6,e6,ru,su,f6,o6_⟩:=rb (P:=P) (by nofun) pN 5 5 1 (by decide) (by decide) (by decide) (by decide) f5;obtain⟨g,S7,e7,rg,sg,f7,o7_⟩:=zRm ru (by decide) su f6;have at7:=on o7_ (on o6_ (on o5_ (on o4_ (on o3_ (on o2 at0)))));obtain⟨v,hv⟩:∃v,v=t.d:=⟨_,rfl⟩
 obtain⟨z,hz⟩:∃z,z=u.d:=⟨_,rfl⟩
 obtain⟨y,hy⟩:∃y,y=g.d:=⟨_,rfl⟩
 rw[<- hv]at e5;rw[<- hz]at e6 e7;rw[<- hy]at e7;obtain⟨p,hp⟩:∃p:D,p=.lst (P.map D.str):=⟨_,rfl⟩
 rw[<- hp]at e2 e5 e6;have ex:=zWa (m:=[.tup [v,.bl false],.tup [y,.bl true]]) at7 (by rw[xp];show _+2<=_;lia);rw[show L.map rgD++[.tup [v,.bl false],.tup [y,.bl true]]=(L++[(t,false),(g,true)]).map rgD by rw[hv,hy];simp]at ex;refine⟨t,g,S7.set 0 (.lst ((L++[(t,false),(g,true)]).map rgD)),some (.ref S.length),some p,some (.int (m:Nat)),some v,?_,zFc at7,⟨rt.ups (by decide),by nofun⟩,rg.ups (by decide),sg⟩;refine zA1 (e:=[some s,some (.ref 0),some (.int (i:Nat)),some (.ref S.length),o4',o5',o6']) (S1:=S++[.lst [.int own,.int seed]]) ?_ (zA1 (e:=[some s,some (.ref 0),some (.int (i:Nat)),some (.ref S.length),some p,o5',o6']) (S1:=S2) ?_ (zA1 (e:=[some s,some (.ref 0),some (.int (i:Nat)),some (.ref S.length),some p,some (.int (m:Nat)),o6']) (S1:=S4) ?_ (zA1 (e:=[some s,some (.ref 0),some (.int (i:Nat)),some (.ref S.length),some p,some (.int (m:Nat)),some v]) (S1:=S5) ?_ ?_)))
 ·rw[sSet,zA8 (zAk (zA4 rfl) (zAa (zA4 rfl))) (show zCh [s,.int (i:Nat)] S=_ from ef)];rfl
 ·rw[sSet,zA8 (zAk (zA4 rfl) (zAa rfl)) e2];rfl
 ·have q1:eLst (zA0 (eOp addD (eC (.int 1)) (zA3 zA2 (zA0 (eVar 3) (zA0 (eC (.int 12)) aNil)))) (zA0 (eC (.int 60)) aNil)) [some s,some (.ref 0),some (.int (i:Nat)),some (.ref S.length),some p,o5',o6'] S2=.ok (.lst [.int (1+a),.int 60]) S3:=by
   rw[eLst,zAk (zA5 rfl (zC8 rfl e3) rfl) (zAa rfl)];rfl
  have q2:eCB intB (zA0 (eOp eqI (zA3 zA2 (zA0 (eVar 3) (zA0 (eC (.int 4)) aNil))) (eC (.int 1))) aNil) [some s,some (.ref 0),some (.int (i:Nat)),some (.ref S.length),some p,o5',o6'] S3=.ok (.int (if decide (b=1)=true then 1 else 0)) S4:=by rw[eCB,zAa (zA5 (zC8 rfl e4) rfl zCa),Rs.bind_ok];rfl
  rw[sSet,zA5 q1 q2 em];rfl
 ·rw[sSet,zA8 (zAk (zA4 rfl) (zAk (zA4 rfl) (zAk rfl (zAk rfl (zAa (zA4 rfl)))))) e5];rfl
 ·have q1:zA3 zBa (zA0 (eVar 3) (zA0 (zA3 zAy (zA0 (eVar 3) (zA0 (eC (.int 5)) (zA0 (eC (.int 5)) (zA0 (eC (.int 1)) (zA0 (eVar 4) aNil)))))) aNil)) [some s,some (.ref 0),some (.int (i:Nat)),some (.ref S.length),some p,some (.int (m:Nat)),some v] S5=.ok y S7:=zA8 (zAk (zA4 rfl) (zAa (zA8 (zAk (zA4 rfl) (zAk rfl (zAk rfl (zAk rfl (zAa (zA4 rfl)))))) e6))) e7;have q2:eLst (zA0 (eTup (zA0 (eVar 6) (zA0 (eC (.bl false)) aNil))) (zA0 (eTup (zA0 (zA3 zBa (zA0 (eVar 3) (zA0 (zA3 zAy (zA0 (eVar 3) (zA0 (eC (.int 5)) (zA0 (eC (.int 5)) (zA0 (eC (.int 1)) (zA0 (eVar 4) aNil)))))) aNil))) (zA0 (eC (.bl true)) aNil))) aNil)) [some s,some (.ref 0),some (.int (i:Nat)),some (.ref S.length),some p,some (.int (m:Nat)),some v] S5=.ok (.lst [.tup [v,.bl false],.tup [y,.bl true]]) S7:=by
   rw[eLst,zAk (d:=.tup [v,.bl false]) (S1:=S5) rfl (zAa (d:=.tup [y,.bl true]) (S1:=S7) (by rw[eTup,zAk q1 (zAa rfl)];rfl))];rfl
  have at5:=on o5_ (on o4_ (on o3_ (on o2 at0)));show zAp _ _ _=_;rw[zAp,zCr (S:=S5) (c:=0) rfl at5 (zAa q2) ex];rfl
theorem law_ok(ns:List Int)(hn:ns.length<=63):∃S,zLg [.klst (ns.map .int)] []=.ok (.bl true) S:=by
 obtain⟨s,hs⟩:∃s:D,s=.klst (ns.map .int):=⟨_,rfl⟩
 obtain⟨m,m2,m4,em⟩:∃m:Nat,2<=m/\m<=4/\eCB max2B (zA0 (eC (.int 2)) (zA0 (eCB min2B (zA0 (eC (.int 4)) (zA0 (eCB lenB (zA0 (eVar 0) aNil)) aNil))) aNil)) [some s,some (.ref 0),none,none,none,none,none] [.lst []]=.ok (.int (m:Nat)) [.lst []]:=by
  have ln:lenB [.lst []] [s]=some (.int (ns.length:Nat)):=by rw[hs];show some (D.int ((ns.map D.int).length:Int))=_;rw[xp]
  have q1:eCB min2B (zA0 (eC (.int 4)) (zA0 (eCB lenB (zA0 (eVar 0) aNil)) aNil)) [some s,some (.ref 0),none,none,none,none,none] [.lst []]=.ok (.int (if(ns.length:Int)<4 then ns.length else 4)) [.lst []]:=by rw[eCB,zAk (d:=.int 4) rfl (zAa (by rw[eCB,zAa (zA4 rfl),Rs.bind_ok,ln];rfl)),Rs.bind_ok,min2];rfl
  refine⟨(if(if(ns.length:Int)<4 then(ns.length:Int)else 4) > 2 then(if(ns.length:Int)<4 then(ns.length:Int)else 4)else 2).toNat,by split <;> split <;> lia,by split <;> split <;> lia,?_⟩;rw[eCB,zAk (d:=.int 2) rfl (zAa q1),Rs.bind_ok];show Rs.ok (D.int (if(if(ns.length:Int)<4 then(ns.length:Int)else 4) > 2 then(if(ns.length:Int)<4 then(ns.length:Int)else 4)else 2)) _=_;congr 2;split <;> split <;> lia
 obtain⟨env',S2,e2,L,o2,o3,o4,o5,o6,rfl,a2,ll,lr⟩:=zK7 (h:=λi:Nat=>D.int (i:Int)) (gd:=[]) (g:=gName 2) (b:=lwB) (ys:=List.range m)
  (λZ env T=>∃(L:List (It × Bool)) (o2 o3 o4 o5 o6:Option D),env=[some s,some (.ref 0),o2,o3,o4,o5,o6]/\T[0]?=some (.lst (L.map rgD))/\L.length=2*Z.length/\∀p∈L,Ru 12 p.1/\p.1.sz<=900)
  (λ_ _ _ _=>zB1) (λZ i Y eq env T hh=>by
   obtain⟨L,o2,o3,o4,o5,o6,rfl,a2,ll,lr⟩:=hh;have hi:i=Z.length/\Z.length<m:=by have e:=congrArg (·[Z.length]?) eq;have l:=congrArg List.length eq;rw[vj,xk,xv]at l;simp only[xM (xh _),vH,uQ]at e;rw[uX (by nofun)]at e;exact⟨(xB e).symm,by nofun⟩
   obtain⟨rfl,zm⟩:=hi;obtain⟨t,g,T',p3,p4,p5,p6,e,a3,rt,rg⟩:=zVl (o3':=o3) (o4':=o4) (o5':=o5) (o6':=o6) hs (i:=Z.length) (by nofun) a2 (by nofun);refine⟨[some s,some (.ref 0),some (.int (Z.length:Nat)),o3,o4,o5,o6],_,T',rfl,e,L++[(t,false),(g,true)],_,_,_,_,_,rfl,a3,by rw[xk,xk,xG,ll];show _+2=_;lia,λp hp=>?_⟩;rcases xH.mp hp with hp|hp
   ·exact lr p hp
   ·simp only[xr,xJ,xK]at hp;rcases hp with rfl|rfl
    ·exact rt
    ·exact rg) (List.range m) [] [some s,some (.ref 0),none,none,none,none,none] [.lst []] rfl ⟨[],_,_,_,_,_,rfl,rfl,rfl,λp h=>nomatch h⟩
 rw[vj]at ll;refine⟨[],?_⟩;rw[<- hs];unfold zLg zAg;rw[xc (show [s].length=1 from rfl)]
 suffices hb:zWz ([s].map some++List.replicate (7-1) none) []=.rt (.bl true) S2 by rw[hb];exact zW7
 refine zA1 (e:=[some s,some (.ref 0),none,none,none,none,none]) (S1:=[.lst []]) rfl (zA1 (e:=[some s,some (.ref 0),o2,o3,o4,o5,o6]) (S1:=S2) ?_ (zAh ?_))
 ·rw[sFor,zCe em (by nofun),Rs.then_ok];exact e2
 ·have q1:eOp addD (eVar 1) (eUn revS (eVar 1)) [some s,some (.ref 0),o2,o3,o4,o5,o6] S2=.ok (.lst ((L++L.reverse).map rgD)) S2:=by
   have rv:revS S2 (.ref 0)=some (.lst (L.map rgD).reverse):=by unfold revS;dsimp only;rw[zB4 a2]
   refine zA5 (x:=.ref 0) (y:=.lst (L.map rgD).reverse) rfl (zTk (zA4 rfl) rv) ?_;have l1:litems S2 (.ref 0)=some (L.map rgD):=by unfold litems;dsimp only;rw[zB4 a2]
   show(match litems S2 (.ref 0),litems S2 (.lst (L.map rgD).reverse)with|some l,some m=>if l.length+m.length<=most then some (D.lst (l++m))else none|_,_=>none)=_;rw[l1];show(if(L.map rgD).length+(L.map rgD).reverse.length<=most then some (D.lst (L.map rgD++(L.map rgD).reverse))else none)=_;rw[xc (xq (show _<=1000 by rw[vS,xp];lia) (by decide)),xP,List.map_reverse]
  have c:zAv 2 [] (iVal (eOp addD (eVar 1) (eUn revS (eVar 1)))) (gTup [(gName 0),(gName 1)]) tYes (zA3 zC5 (zA0 (eVar 0) (zA0 (eVar 1) aNil))) [some s,some (.ref 0),o2,o3,o4,o5,o6] S2=.ok (.lst ((L++L.reverse).map λ_=>.bl true)) S2:=by refine zCw (xs:=L++L.reverse) (h:=rgD) (gd:=[]) (λenv=>∃o o',env=[o,o']) (zK4 q1) zB1 ⟨none,none,rfl⟩ (xq (show _<=1000 by rw[xk,vS];lia) (by decide)) ?_;rintro x hx env ⟨o,o',rfl⟩;have hx':x∈L:=(xH.mp hx).elim id List.mem_reverse.mp;obtain⟨r,z⟩:=lr x hx';exact⟨[some x.1.d,some (.bl x.2)],rfl,⟨_,_,rfl⟩,zA8 (zAk (zA4 rfl) (zAa (zA4 rfl))) (zQ8 r z)⟩
  have al:=zPn (S:=S2) (p:=λ_:It × Bool=>True) (L++L.reverse);rw[xj (λ_ _=>trivial)]at al;have e3:((L++L.reverse).map λ_=>D.bl (decide True))=(L++L.reverse).map λ_=>D.bl true:=by rw[xj trivial]
  rw[e3]at al;rw[eCB,zAa c,Rs.bind_ok,al];rfl
end
end DP
namespace L2
open PySem PySem.Spec PyProof.Rows
open DS (D Store Exn Rs SR)
noncomputable def zIx (K:PySem.W.Frag) (c P:Addr):Bool:=match K.lookup c with
 | some o=>(match o.cls with
  | .type t=>t == "code"
  | _=>false) && (match o.data with
  | .fields vs=>(match vs.getD 11 .none,vs.getD 18 .none,vs.getD 7 .none,vs.getD 9 .none,vs.getD 10 .none with
   | .ref p,.str _ _,.int _ _,.bool _,.int _ _=>p == P && !(c == P)
   | _,_,_,_,_=>false)
  | _=>false)
 | none=>false
theorem zOu{K:PySem.W.Frag}(X:K.In base)(h:zIx K c P=true):PySem.W.CodeHd base c P:=by
 unfold zIx at h;split at h
 ·rename_i o e;rw[xl]at h;obtain⟨h1,h2⟩:=h;split at h1
  ·rename_i t et;have:t="code":=by simpa using h1
   subst this;split at h2
   ·rename_i vs ev;split at h2
    ·rename_i p _ _ _ _ _ _ _ q1 q2 q3 q4 q5;rw[xl]at h2;have:p=P:=by simpa using h2.1
     subst this;have q0:vs[11]?=some (.ref p):=by
      rw[Array.getD_eq_getD_getElem?]at q1;cases z:vs[11]? with
      | none=>rw[z]at q1;cases q1
      | some v=>rw[z]at q1;exact congrArg some q1
     exact⟨o,vs,_,_,_,_,_,_,_,X _ _ e,et,ev,q0,q1,q2,q3,q4,q5,by simpa using h2.2⟩
    ·cases h2
   ·cases h2
  ·cases h1
 ·cases h
theorem law_callT{P:Program}{w:World}{K:PySem.W.Frag}{mg mb:Str->Option Value}{k:Nat}{fa a:Addr}{fd:FuncData}{x:Str}{sp:Sp}{s₁:Shared}{vs:List Value}{ns:List Int}
  (KX:K.In s₁.heap) (hns:s₁.heap.Ns mainGlobals mg) (hb:s₁.heap.Ns builtinsNs mb) (hbb:∀x:Str,x≠"__name__"->mb x=bootBuiltins x) (hlim:s₁.heap.NoLimit) (hg:s₁.gens=#[])
  (ha:s₁.heap.get? a=some { cls:=.type "list",data:=.seq vs.toArray }) (hi:IntsAre vs ns) (hl:ns.length<=sizeLine) (hr:Room k callerA)
  (hT:∀P∈zCd K,K.lookup P=none/\s₁.heap.get? P=some (PySem.W.tabObj #[])/\∃c,PySem.W.CodeHd s₁.heap c P)
  (F:∀base:Heap,K.In base->base.Ns mainGlobals mg->FnOk P w K mg base CX0 k fa fd [x] sp) (hbind:∀(s:Shared) (u:Value),BindsTo s fd ⟨[u],[]⟩ [(x,u)])
  (hsp:∀H:Hp,SqL K H a (ns.map V.int)->TabsOk K H->sp [.ref a] H (λv _=>v=.bl true) E0):
  codeAny (model P w) callerA (.call (.ref fa) ⟨[.ref a],[]⟩) (λr s'=>r=.ok (.ret (.bool true))/\OldK s₁.heap s'.heap/\s'.os=s₁.os/\AllBare s'.gens) s₁:=by
 have rv:=zGv hi;have lenV:=hi.length;have core:∀H:Hp,(∀b,H b=none\/(b=a/\K.lookup a=none/\∃o xs,H b=some (.frz o (.lst xs)))\/(b∈zCd K/\H b=some (.tbl #[])))->(∀b∈zCd K,H b=some (.tbl #[]))->SqL K H a (ns.map V.int)->HOk P w H s₁.heap->
   codeAny (model P w) callerA (.call (.ref fa) ⟨[.ref a],[]⟩) (λr s'=>r=.ok (.ret (.bool true))/\OldK s₁.heap s'.heap/\s'.os=s₁.os/\AllBare s'.gens) s₁:=by
  intro H hO hA hS hok;have zEv:∀{b:Addr}{o:Obj},s₁.heap.get? b=some o->H b=none->(hidT s₁.heap H).get? b=some o:=λe n=>zRk e n
  have noA:∀{b:Addr}{o:Obj}{es:Array DictEntry}{ep:Nat},s₁.heap.get? b=some o->o.data=.dict es ep->H b=none:=λ{b o es ep} e d=>by
   rcases hO b with z|⟨rfl,_⟩|⟨m,_⟩
   ·exact z
   ·rw[ha]at e;cases e;have d':=d;cases d'
   ·rw[(hT b m).2.1]at e;cases e;cases d
  have nsK:∀{b:Addr}{m:Str->Option Value},s₁.heap.Ns b m->(hidT s₁.heap H).Ns b m:=λ{b m} ⟨o,es,ep,e,d,r⟩=>⟨o,es,ep,zEv e (noA e d),d,r⟩
  have hKb:K.In (hidT s₁.heap H):=λb o e=>zEv (KX b o e) (by
   rcases hO b with z|⟨rfl,z,_⟩|⟨m,_⟩
   ·exact z
   ·rw[z]at e;cases e
   ·rw[(hT b m).1]at e;cases e)
  have hM:Mod K mg (hidT s₁.heap H):=⟨hKb,nsK hns,⟨mb,nsK hb,hbb⟩,let ⟨mc,h1,h2⟩:=hlim;⟨mc,nsK h1,h2⟩⟩;have e0:Env0 P w K mg (hidT s₁.heap H) callerA [] s₁ H:=⟨rfl,hM,λb o e=>zVd e,Nat.le_of_eq (zO1 _ _),trivial,λb hb=>absurd (show b∈([]:List Addr)from hb) (by simp),hok,.of_eq hg,rfl⟩;have hTb:TabsOk K H:=⟨λP ps e=>by
   rcases hO P with z|⟨_,_,o,xs,z⟩|⟨_,z⟩
   ·rw[e]at z;cases z
   ·rw[e]at z;cases z
   ·rw[e]at z;cases z;exact⟨trivial,λpos cv q=>by cases q⟩,λP m=>⟨_,hA P m⟩⟩
  refine codeAny_mono ((F _ hKb (nsK hns)).run callerA [] s₁ H ⟨[.ref a],[]⟩ [.ref a] [.ref a] _ _ hr e0 (hbind s₁ (.ref a)) (.cons rfl .nil) (hsp H hS hTb)) λr s' h=>?_
  cases r with
  | error e=>exact False.elim h
  | ok fl=>
   cases fl with
   | next=>exact False.elim h
   | brk=>exact False.elim h
   | cont=>exact False.elim h
   | ret u=>
    obtain⟨v,H',os,bare,un,hok',r',q⟩:=h;have q':=q;subst q';obtain rfl:u=Value.bool true:=r';refine⟨rfl,⟨λb o e=>?_,λb o e=>un.there b o e (by simp)⟩,os,bare⟩;rcases hO b with z|⟨_,_,ob,xs,z⟩|⟨m,z⟩
    ·exact .inl (un.keep b o e z (by intro z;exact absurd (show b∈([]:List Addr)from z) (by simp)) (by simp))
    ·have z2:=un.frzs b ob _ z;obtain⟨e1,_⟩:=hok b _ z;obtain⟨e2,_⟩:=hok' b _ z2;rw[e]at e1;cases e1;exact .inl e2
    ·obtain⟨more,z2⟩:=un.tbls b _ z;obtain⟨_,t,c,hc⟩:=hT b m;have e2:=hok' b _ z2;rw[t]at e;cases e;exact .inr (.inl ⟨(hc.tab t).isCodeTable,rfl,#[],more,rfl,e2⟩)
 have aT:a ∉ zCd K:=λm=>by
  have:=(hT a m).2.1;rw[ha]at this;cases this
 cases hk:K.lookup a with
 | some o=>
  have e:=KX a o hk;rw[ha]at e;cases e;refine core (λb=>if b∈zCd K then some (.tbl #[])else none) (λb=>?_) (λb m=>xc m) (.inr ⟨_,vs.toArray,_,hk,rfl,rfl,rfl,by rw[xu,lenV];exact hl,by simpa using rv⟩) λb u z=>?_
  ·by_cases m:b∈zCd K
   ·exact .inr (.inr ⟨m,xc m⟩)
   ·exact .inl (xf m)
  ·by_cases m:b∈zCd K
   ·have z':=(xc m).symm.trans z;cases z';exact(hT b m).2.1
   ·have z':=(xf m).symm.trans z;cases z'
 | none=>
  refine core (λb=>if b∈zCd K then some (.tbl #[])else if b=a then some (.frz { cls:=.type "list",data:=.seq vs.toArray } (.lst (ns.map V.int)))else none) (λb=>?_) (λb m=>xc m) (.inl (.inr ⟨{ cls:=.type "list",data:=.seq vs.toArray },(xf aT).trans (xc rfl)⟩)) (λb u z=>?_)
  ·by_cases m:b∈zCd K
   ·exact .inr (.inr ⟨m,xc m⟩)
   ·by_cases hb:b=a
    ·exact .inr (.inl ⟨hb,hk,_,_,(xf m).trans (xc hb)⟩)
    ·exact .inl ((xf m).trans (xf hb))
  ·by_cases m:b∈zCd K
   ·have z':=(xc m).symm.trans z;cases z';exact(hT b m).2.1
   ·have z:=(xf m).symm.trans z;by_cases hb:b=a
    ·have z':=(xc hb).symm.trans z;cases z';subst hb;exact⟨ha,by rw[xp];exact hl,vs,_,rv,ha⟩
    ·have z':=(xf hb).symm.trans z;cases z'
noncomputable def tabB (K:PySem.W.Frag) (tb:List (Addr × Addr)):Bool:=zCd K == tb.map (·.2) && tb.all λe=>zIx K e.1 e.2 && (K.lookup e.2).isNone
theorem zPu{l:PySem.W.OpenLaw}{n k:Nat}{q:Program}{loose:List Str}{XP:(Str->Option Value)->Heap->Prop}{YP:World->Heap->Prop}{d:DefRec}{K:Params->PySem.W.Frag}{tb:List (Addr × Addr)}{Fn:DS.Fn}{x:Str}
  (hn:l.most=some n) (hn2:n<=sizeLine) (hdf:d.params.defaults=[]) (hr:Room k callerA)
  (hY:∀(w:World) (h:Heap),YP w h->(K w.params).In h/\∀e∈tb,h.get? e.2=some (PySem.W.tabObj #[])) (hB:∀w:World,tabB (K w.params) tb=true)
  (F:∀(w:World) (mg:Str->Option Value) (fa:Addr) (h:Heap),(K w.params).In h->h.Ns mainGlobals mg->mg d.name=some (.ref fa)->
   ∃fd:FuncData,(∀(s:Shared) (u:Value),BindsTo s fd ⟨[u],[]⟩ [(x,u)]) /\
    ∀base:Heap,(K w.params).In base->base.Ns mainGlobals mg->FnOk l.prog w (K w.params) mg base CX0 k fa fd [x] (spOf (K w.params) XE0 Fn))
  (hsp:∀ns:List Int,ns.length<=n->∃S,Fn [.klst (ns.map D.int)] []=.ok (.bl true) S):
  PySem.W.WalkO q loose XP YP l.row.toRowW d [] (λf vs=>PySem.call f vs):=by
 refine Att.attach_call hn hdf λw s₀ s₁ mg mb fa o pm cd doc a vs ns G Y ho hd hcd hmg hobj hints hlen hg=>?_
 obtain⟨KX,hTb⟩:=hY w _ Y;obtain⟨fd,hb,hF⟩:=F w mg fa _ KX G.T.g hmg;have hB:=hB w;simp only[tabB,xl,ve]at hB;have e1:zCd (K w.params)=tb.map (·.2):=by simpa using hB.1
 refine law_callT KX G.T.g G.T.b G.T.builtins G.T.nolimit hg hobj hints (xq hlen hn2) hr (λP m=>?_) hF hb λH hS hT=>zMj (hsp ns hlen) hS hT
 rw[e1]at m;obtain⟨e,he,rfl⟩:=xE.mp m;obtain⟨h1,h2⟩:=hB.2 e he;exact⟨by simpa using h2,hTb e he,e.1,zOu KX h1⟩
noncomputable def tabK (tb:List (Addr × Addr)):PySem.W.Frag:=tb.map λe=>(e.2,PySem.W.tabObj #[])
theorem zVv{K:PySem.W.Frag}{h:Heap}(hB:tabB K tb=true)(X:PySem.W.Frag.In (K++tabK tb) h):K.In h/\∀e∈tb,h.get? e.2=some (PySem.W.tabObj #[]):=by
 have app:∀(L T:PySem.W.Frag) (a:Addr),(L++T).lookup a=(match L.lookup a with|some o=>some o|none=>T.lookup a):=λL T a=>by
  induction L with
  | nil=>rfl
  | cons y r ih=>
   obtain⟨b,o⟩:=y;rw[vG,xT,xT];cases a == b <;> simp[ih]
 have tl:∀(tb:List (Addr × Addr)) (e:Addr × Addr),e∈tb->(tabK tb).lookup e.2=some (PySem.W.tabObj #[]):=λtb e he=>by
  induction tb with
  | nil=>cases he
  | cons y r ih=>
   show List.lookup e.2 ((y.2,PySem.W.tabObj #[])::tabK r)=_;rw[xT];cases z:e.2 == y.2 with
   | true=>rfl
   | false=>
    rcases xr.mp he with q|q
    ·rw[q]at z;simp at z
    ·exact ih q
 simp only[tabB,xl,ve]at hB;refine⟨λb o e=>X b o (by rw[app,e]),λe he=>X _ _ ?_⟩;have:K.lookup e.2=none:=by simpa using(hB.2 e he).2
 rw[app,this];exact tl tb e he
noncomputable def xeOf (K:PySem.W.Frag) (EX:XK):XE:=λx _ J H=>∀d a,x=DS.exOf d->Rep K J H d (.ref a)->EX (.ref a) none H
noncomputable def spX (K:PySem.W.Frag) (F:DS.Fn):Sp:=λvs H Q EX=>∃J S ds,AbS K J S H/\RepL K J H ds vs/\Post K (xeOf K EX) J H (F ds S) (λd _ J' H'=>∀v,Rep K J' H' d v->Q v H')
section
variable {α:Type}{X:Cx}{K:PySem.W.Frag}{E:XE}{J:Js}{H:Hp}{e:Expr}{st:Stmt}{sts:List Stmt}{m:DS.EM}{mt:DS.TM}{ms:DS.SM}
theorem Post.ne{r:Rs α}{P:α->Store->Js->Hp->Prop}(h:Post K E J H r.ne P):Post K XE0 J H r P:=by
 cases r with
 | ok a S=>exact h
 | ex x S=>exact False.elim h
 | bad=>exact h
theorem PostS.ne{r:SR}{D:Ends}(h:PostS K E J H r.ne D):PostS K XE0 J H r D:=by
 cases r with
 | ex x S=>exact False.elim h
 | bad=>exact h
 | _=>exact h
theorem PS.nox(h:PS X.nox st t):PS X st t:=λpins s σ H D I hw=>
 vd (h pins s σ H D (I.wish _) hw) (λ_ _ q=>q.unwish) λ_ _ z=>False.elim z
theorem yA6(h:DT X.nox K XE0 e mt):DT X K E e (DS.neR mt):=⟨(ST.imp ⟨h.h.h.nox⟩) λσ H Q hz3=>by obtain⟨env,S,J,ha,he,q⟩:=hz3;exact ⟨env,S,J,ha,he,Post.ne q⟩⟩
theorem zWk(h:DS1 X.nox K XE0 st ms):DS1 X K E st (DS.neS ms):=⟨(SS.imp ⟨h.h.h.nox⟩) λD σ H hz4=>by obtain⟨env,S,J,ha,he,q⟩:=hz4;exact ⟨env,S,J,ha,he,PostS.ne q⟩⟩
end
section
variable {P:Program}{w:World}{K:PySem.W.Frag}{mg:Str->Option Value}{base:Heap}{E:XE}
theorem body_okX{np:Nat}{N:List Str}{b:DS.SM}{Q:VK}(ha:AbS K J S H)(r:RepL K J H ds vs)
  (h:Post K E J H (DS.zAg np N.length b ds S) (λd _ J' H'=>∀v,Rep K J' H' d v->Q v H')):tsOf K E b { nx:=λ_ H'=>Q .non H',rt:=Q } (start N vs) H:=by
 have hl:ds.length=np:=by
  unfold DS.zAg at h;by_cases e:ds.length=np
  ·exact e
  ·rw[xf e]at h;exact False.elim h
 unfold DS.zAg at h;rw[xc hl,<- hl]at h;refine⟨_,S,J,ha,zG0 r,?_⟩;have fin:∀d S' J' H' v,AbS K J' S' H'->Grow J H J' H'->Rep K J' H' d v->Post K E J H (DS.fin S d S') (λd _ J' H'=>∀v,Rep K J' H' d v->Q v H')->Q v H':=λd S' J' H' v a1 g1 r1 q=>by
  cases e:DS.fin S d S' with
  | ok d2 S2=>
   obtain⟨J2,a2,g2,r2⟩:=zSx ha g1 a1 r1 e;rw[e]at q;exact q J2 H' a2 g2 v r2
  | ex x S2=>
   exfalso;unfold DS.fin at e;split at e <;> try cases e
   split at e <;> try cases e
   split at e <;> try cases e
   split at e <;> try cases e
   split at e <;> cases e
  | bad=>rw[e]at q;exact False.elim q
 cases e:b (ds.map some++List.replicate (N.length-ds.length) none) S with
 | nx e1 S1=>rw[e]at h;exact λJ' H' σ h1 g1 _=>fin .non S1 J' H' .non h1 g1 rfl h
 | rt d S1=>rw[e]at h;exact λJ' H' v h1 g1 r1=>fin d S1 J' H' v h1 g1 r1 h
 | bk e1 S1=>rw[e]at h;exact False.elim h
 | ct e1 S1=>rw[e]at h;exact False.elim h
 | ex x S1=>rw[e]at h;exact h
 | bad=>rw[e]at h;exact False.elim h
theorem fn_x{k:Nat}{st:Stmt}{N ps:List Str}{np nl:Nat}{b:DS.SM}(F:Fun K x qual st f fd)(Sc:zCz N ps (zA6 st))(hnp:ps.length=np)(hnl:N.length=nl)
  (hb:∀(cdv:Value) (A:Around) (outer:List PySem.Env) (s:Shared) (H:Hp) (EX:XK),Room k (A.deeper (envOfC qual (zA6 st) s.heap.objs.size f cdv))->DSs (cxOf (CXE P w) P w K mg base N qual (zA6 st) f cdv A outer s H EX) K (xeOf K EX) (zAu st) b):
  FnOk P w K mg base (CXE P w) (k+1) f fd ps (spX K (DS.zAg np nl b)):=by
 subst hnp hnl;obtain⟨oc,od,kV,doc,pm,an,cdv,ct,osl,rfl,lk,hcd⟩:=F.ex;refine zZo lk hcd Sc (λvs H Q E h=>?_) (λA outer s H vs Q E hr h=>?_)
 ·obtain⟨J,S,ds,ha,r,q⟩:=h;rw[<- r.length];unfold DS.zAg at q;by_cases e:ds.length=ps.length
  ·exact e
  ·rw[xf e]at q;exact False.elim q
 ·obtain⟨J,S,ds,ha,r,q⟩:=h;exact⟨_,(hb cdv A outer s H E hr).h.h,body_okX ha r q⟩
end
noncomputable def spI (K:PySem.W.Frag) (f:Str):Sp:=λvs H Q _=>∃a x C,vs=[.ref a,x]/\H a=some (.ext (XO a C none true))/\ClsE K C/\NoAttr K C f/\∀dx,H dx=none->dx≠a->Q .non (upd (upd H a (.ext (XO a C (some dx) true))) dx (.xd [(f,x)]))
theorem zVu{P:Program}{w:World}{K:PySem.W.Frag}{mg:Str->Option Value}{base:Heap}{k:Nat}{x qual s0 x0 f:Str}{st:Stmt}{fI:Addr}{fd:FuncData}{p1 p2 p3 p4:Pos}(F:Fun K x qual st fI fd)(Sc:zCz [s0,x0] [s0,x0] (zA6 st))
  (hb:zAu st=[.Assign [.Attribute (.Name s0 p1) f p2] (.Name x0 p3) p4]) (v0:Vis (zA6 st) s0) (v1:Vis (zA6 st) x0) (d0:(s0 == ("__debug__":Str))=false:=by decide) (d1:(x0 == ("__debug__":Str))=false:=by decide)
  (c0:(s0 == ("__classdict__":Str))=false:=by decide) (c1:(x0 == ("__classdict__":Str))=false:=by decide):FnOk P w K mg base CX0 (k+1) fI fd [s0,x0] (spI K f):=by
 refine F.ok Sc (λvs H Q E hq43=>by obtain⟨a,y,C,e,_⟩:=hq43;rw[e];rfl) (λcdv A outer s H vs Q E hr hq1=>?_);obtain⟨a,y,C,e,ea,c,n,q⟩:=hq1;rw[hb];subst e;exact⟨_,(zJx ⟨yBe (pv 0 rfl v0 d0 c0) (pv 1 rfl v1 d1 c1) rfl⟩).h,y,rfl,.ref a,rfl,a,C,true,rfl,ea,c,n,q⟩
section
variable {X:Cx}{CX:CXT}{k:Nat}{f C:Addr}{fd:FuncData}{ps:List Str}{sp:Sp}{E:XK}{x:Str}{p pos:Pos}{e:Expr}{es:List Expr}{t:TA}{B newId initId:String}{bmB:List Value}
noncomputable def tExc (C:Addr) (sp:Sp) (E:XK) (t:TA):TE:=λσ H Q=>t σ H λvs H1=>vs.length<=1000/\∀a,H1 a=none->sp (.ref a::vs) (upd H1 a (.ext (XO a C none true))) (λv H2=>v=.non/\Q (.ref a) H2) E
theorem zYl(FB:ExcBaseFacts B newId initId bmB)(M:zHg X.K C f bmB newId=true)(F:FnOk X.prog X.w X.K X.mg X.base CX k f fd ps sp)(hr:Room (k+1) X.A)(hb:Binds X.K fd ps [])(hx:Passes CX X E)(hg:Gl X x)(hm:X.mg x=some (.ref C))(hk:PySem.W.keepIn X.K (.ref C)=true)
  (ha:PA X (e::es) t) (hdb:(x == ("__debug__":Str))=false:=by decide) (he:starEach (e::es) X.env=(false,eval e X.env)::starEach es X.env:=by rfl) (hpl:(backTo pos (starEach es X.env)).any (·.1)=false:=by rfl):
  PE X (.Call (.Name x p) (e::es) [] pos) (tExc C sp E t):=by
 intro pins s σ H Q I h;refine vZ (zIo I hg hm ?_ hdb);refine PySem.W.callWith_K (h₀:=X.base) I.ok.mod.kin hk (thn (ha pos pins s σ H _ I h) λus s1 hz5=>by obtain⟨vs,H1,I1,r,z,q⟩:=hz5;exact ⟨I1.kIn,zU0 FB M F hr hb hx I1 r (by show us.length<=1000;rw[<- r.length];exact z) q⟩) he hpl
end
section
variable {P:Program}{w:World}{K:PySem.W.Frag}{mg:Str->Option Value}{base:Heap}{N:List Str}{qual:Str}{scope:Scope}{f a:Addr}{cd:Value}{A:Around}{outer:List Env}{s:Shared}{H:Hp}{EX:XK}
def ZX(EX:XK)(a:Addr)(H:Hp):Prop:=∃C dx,H a=some (.ext (XO a C dx true))/\EX (.ref a) none (upd H a (.ext (XO a C dx false)))
theorem yB1(I:Inv (cxOf (CXE P w) P w K mg base N qual scope f cd A outer s H EX) pins σ H1 s1)(z:ZX EX a H1):(cxOf (CXE P w) P w K mg base N qual scope f cd A outer s H EX).xe (.ref a) s1:=by
 obtain⟨C,dx,ea,q⟩:=z;refine zW5 (FlyI.new I ea) λC' dx' fr ea'=>?_
 obtain⟨⟨vs,sl,he,_⟩,_⟩:=I.hok a _ ea;obtain⟨⟨vs',sl',he',_⟩,_⟩:=I.hok a _ ea';rw[he]at he';cases he';exact q
theorem zOd{k:Nat}{fd:FuncData}{s0 x0 fl cn:Str}{e:Expr}{am:DS.AM}{p pos pos':Pos}(FB:ExcBaseFacts B newId initId bmB)(M:zHg K C fI bmB newId=true)
  (F:FnOk P w K mg base CX0 k fI fd [s0,x0] (spI K fl)) (hr:Room (k+1) (cxOf (CXE P w) P w K mg base N qual scope f cd A outer s H EX).A) (hb:Binds K fd [s0,x0] []) (hg:Gl (cxOf (CXE P w) P w K mg base N qual scope f cd A outer s H EX) cn) (hm:mg cn=some (.ref C)) (hk:PySem.W.keepIn K (.ref C)=true)
  (hc:ClsE K C) (hn:NoAttr K C fl) (hx:zHh K C=true) (ha:DA (cxOf (CXE P w) P w K mg base N qual scope f cd A outer s H EX) K (xeOf K EX) [e] am) (hdb:(cn == ("__debug__":Str))=false:=by decide)
  (he:starEach [e] (cxOf (CXE P w) P w K mg base N qual scope f cd A outer s H EX).env=[(false,eval e (cxOf (CXE P w) P w K mg base N qual scope f cd A outer s H EX).env)]:=by rfl):
  DS1 (cxOf (CXE P w) P w K mg base N qual scope f cd A outer s H EX) K (xeOf K EX) (.Raise (some (.Call (.Name cn p) [e] [] pos)) none pos') (DS.zMm (DS.mkX C fl) am):=by
 refine⟨SS.imp ⟨yBf (Z:=ZX EX) (zYl (X:=cxOf (CXE P w) P w K mg base N qual scope f cd A outer s H EX) (E:=E0) FB M F hr hb pass0 hg hm hk ha.h.h hdb he rfl) rfl λpins σ H s a I z=>yB1 I z⟩ ?_⟩;intro D σ H0 hq44;obtain⟨env,S,J,hab,hen,q⟩:=hq44;refine⟨env,S,J,hab,hen,q.then.imp λds S1 J1 H1 e1 a1 g1 q1 vs rv=>?_⟩;unfold DS.mkX at q1;split at q1
 ·rename_i d0 hmk;split at hmk
  ·rename_i d;cases hmk;obtain⟨y,r,rfl,ry,er⟩:=rv;obtain rfl:r=[]:=er;refine⟨by show 1<=1000;decide,λa na=>⟨a,y,C,rfl,zAb,hc,hn,λdx ndx hne=>⟨rfl,?_⟩⟩⟩;have ndx1:H1 dx=none:=by rwa[zA9 hne]at ndx
   have h3:(upd (upd (upd H1 a (.ext (XO a C none true))) a (.ext (XO a C (some dx) true))) dx (.xd [(fl,y)])) a=some (.ext (XO a C (some dx) true)):=by rw[zA9 (xA hne)];exact zAb
   refine⟨a,C,some dx,rfl,h3,hx,C,some dx,h3,?_⟩;generalize e4:upd (upd (upd (upd H1 a (.ext (XO a C none true))) a (.ext (XO a C (some dx) true))) dx (.xd [(fl,y)])) a (.ext (XO a C (some dx) false))=H4;have k4:∀b o,H1 b=some o->H4 b=some o:=λb o eb=>by
    rw[<- e4,zA9 (zAe eb na),zA9 (zAe eb ndx1),zA9 (zAe eb na),zA9 (zAe eb na)];exact eb
   have nt4:∀P ps,H4 P=some (.tbl ps)->H1 P=some (.tbl ps):=λP ps e=>by
    rw[<- e4]at e;by_cases z:P=a
    ·subst z;rw[zAb]at e;cases e
    ·rw[zA9 z]at e;by_cases z2:P=dx
     ·subst z2;rw[zAb]at e;cases e
     ·rwa[zA9 z2,zA9 z,zA9 z]at e
   have ea4:H4 a=some (.ext (XO a C (some dx) false)):=by rw[<- e4];exact zAb
   have ed4:H4 dx=some (.xd [(fl,y)]):=by rw[<- e4,zA9 hne];exact zAb
   exact q1 J1 H4 (a1.more k4 nt4) (.of k4) (.st [.non,.int C,.str fl,d]) a rfl (.inr ⟨a,C,some dx,false,[(fl,y)],rfl,a1.out na,ea4,.inr ⟨dx,rfl,a1.out ndx1,ed4⟩,rfl,y,[],rfl,Rep.grow (.of k4) d y ry,rfl⟩)
  ·cases hmk
 ·exact False.elim q1
end
noncomputable def xR (K:PySem.W.Frag) (R:Addr->Hp->Prop):XE:=λx _ J H=>∀d a,x=DS.exOf d->Rep K J H d (.ref a)->Flown H a->R a H
section
variable {α:Type}{K:PySem.W.Frag}{E E':XE}{J:Js}{H:Hp}
theorem Post.impE{r:Rs α}{P:α->Store->Js->Hp->Prop}(k:∀x S J H,E x S J H->E' x S J H)(h:Post K E J H r P):Post K E' J H r P:=by
 cases r with
 | ok a S=>exact h
 | ex x S=>exact λJ' H' h1 h2=>k _ _ _ _ (h J' H' h1 h2)
 | bad=>exact h
end
section
variable {X:Cx}{K:PySem.W.Frag}{E:XE}{e:Expr}{es:List Expr}{x:Str}{p pos:Pos}{k:Nat}{f:Addr}{fd:FuncData}{ps:List Str}{F:DS.Fn}{am:DS.AM}{m mc:DS.EM}{ms:DS.SM}
end
noncomputable def clsB (K:PySem.W.Frag) (C:Addr):Bool:=PySem.W.findIn K (.ref C) "__getattribute__" == some (some (.builtin "BaseException.__getattribute__")) && (PySem.W.findIn K (.ref C) "__getattr__" == some none && (PySem.W.hasDictIn K C && (zO5 K C && (PySem.W.findIn K (.ref C) "__setattr__" == some (some (.builtin "object.__setattr__")) && (PySem.W.mroIn K C (.type "BaseException") == some true && PySem.W.mroIn K C (.type "object") == some true)))))
theorem zRz{K:PySem.W.Frag}{C:Addr}(h:clsB K C=true):ClsE K C:=by simp only[clsB,xl,vt]at h;exact⟨h.1,h.2.1,h.2.2.1,h.2.2.2.1,h.2.2.2.2.1,h.2.2.2.2.2.1,h.2.2.2.2.2.2⟩
noncomputable def noaB (K:PySem.W.Frag) (C:Addr) (f:Str):Bool:=PySem.W.findIn K (.ref C) f == some none
noncomputable def clnB (X:Cx) (K:PySem.W.Frag) (x:Str) (C:Addr):Bool:=glB X x && (!(x == ("__debug__":Str)) && PySem.W.nsIn K mainGlobals x == some (some (.ref C)))
theorem zS0{X:Cx}{K:PySem.W.Frag}{x:Str}{C:Addr}(G:Gd K X.mg)(h:clnB X K x C=true):Gl X x/\(x == ("__debug__":Str))=false/\X.mg x=some (.ref C):=by simp only[clnB,xl,vQ,vt]at h;exact⟨zO3 h.1,h.2.1,G.a _ _ h.2.2⟩
structure CalX (P:Program) (w:World) (K:PySem.W.Frag) (mg:Str->Option Value) (base:Heap) (x:Str) (k:Nat) (ps:List Str) (F:DS.Fn):Prop where
 ex:∃f fd,FnOk P w K mg base (CXE P w) k f fd ps (spX K F)/\mg x=some (.ref f)/\PySem.W.keepIn K (.ref f)=true/\Binds K fd ps []
structure IniX (P:Program) (w:World) (K:PySem.W.Frag) (mg:Str->Option Value) (base:Heap) (C:Addr) (fl:Str):Prop where
 ex:∃f fd s0 x0,FnOk P w K mg base CX0 1 f fd [s0,x0] (spI K fl)/\Binds K fd [s0,x0] []/\zHg K C f [.type "ValueError",.type "Exception",.type "BaseException",.type "object"] "ValueError.__new__"=true
section
variable {P:Program}{w:World}{K:PySem.W.Frag}{mg:Str->Option Value}{base:Heap}
theorem yCo(G:Gd K mg)(f cd:Addr)(tq:Stmt)(pm:Value)(N:List Str){x:Str}{ps:List Str}{k:Nat}{b:DS.SM}
  (hb:∀(cdv:Value) (A:Around) (outer:List PySem.Env) (s:Shared) (H:Hp) (E:XK),Room k (A.deeper (envOfC x (zA6 tq) s.heap.objs.size f cdv))->DSs (cxOf (CXE P w) P w K mg base N x (zA6 tq) f cdv A outer s H E) K (xeOf K E) (zAu tq) b)
  (l:K.lookup f=some (fO x tq pm cd)) (c:(PySem.W.codeIn K (.ref cd) x && (PySem.W.keepIn K (.ref f) && scB N ps (zA6 tq)))=true) (hm:PySem.W.nsIn K mainGlobals x=some (some (.ref f)))
  (bd:∀(kV doc pm:Value) (an:Option Addr) (cdv ct:Value) (us:List Value),us.length=ps.length->bindArgs (PySem.W.fnOf x x (zBo tq) (zAu tq) (zA6 tq) .none kV doc pm an cdv ct) ⟨us,[]⟩=pure (ps.zip us)):CalX P w K mg base x (k+1) ps (DS.zAg ps.length N.length b):=by
 rw[xl,xl]at c;have F:=zK6 l c.1 c.2.1;exact⟨_,_,fn_x F (zEj c.2.2) rfl rfl hb,G.a _ _ hm,F.kp,F.binds bd⟩
noncomputable abbrev iO (q:Str) (tq:Stmt) (pm:Value) (cd:Addr):Obj:=⟨.type "function",none,.func (PySem.W.fnOf "__init__" q (zBo tq) (zAu tq) (zA6 tq) .none .none .none pm none (.ref cd) .none),#[]⟩
noncomputable def iniB (tq:Stmt) (s0 x0 fl:Str):Bool:=(match zAu tq with
 | [.Assign [.Attribute (.Name a _) g _] (.Name b _) _]=>a == s0 && (b == x0 && g == fl)
 | _=>false) && (visB ((zA6 tq).names.lookup s0) && (visB ((zA6 tq).names.lookup x0) && (!(s0 == ("__debug__":Str)) && (!(x0 == ("__debug__":Str)) && (!(s0 == ("__classdict__":Str)) && !(x0 == ("__classdict__":Str)))))))
theorem yBz(f cd C:Addr)(q:Str)(tq:Stmt)(pm:Value)(s0 x0 fl:Str)(l:K.lookup f=some (iO q tq pm cd))(c:(PySem.W.codeIn K (.ref cd) q && (PySem.W.keepIn K (.ref f) && (scB [s0,x0] [s0,x0] (zA6 tq) && (iniB tq s0 x0 fl && zHg K C f [.type "ValueError",.type "Exception",.type "BaseException",.type "object"] "ValueError.__new__"))))=true)
  (bd:∀(kV doc pm:Value) (an:Option Addr) (cdv ct:Value) (us:List Value),us.length=[s0,x0].length->bindArgs (PySem.W.fnOf "__init__" q (zBo tq) (zAu tq) (zA6 tq) .none kV doc pm an cdv ct) ⟨us,[]⟩=pure ([s0,x0].zip us)):IniX P w K mg base C fl:=by
 simp only[xl]at c;obtain⟨c1,c2,c3,c4,c5⟩:=c;have F:Fun K "__init__" q tq f _:=zSw l c1 c2;simp only[iniB,xl,vQ]at c4;obtain⟨b0,v0,v1,d0,d1,e0,e1⟩:=c4;split at b0
 ·rename_i a p1 g p2 b p3 p4 hb;simp only[xl,vt]at b0;obtain⟨rfl,rfl,rfl⟩:=b0;exact⟨f,_,_,_,zVu F (zEj c3) hb (zFs v0) (zFs v1) d0 d1 e0 e1,F.binds bd,c5⟩
 ·cases b0
end
section
variable {X:Cx}{K:PySem.W.Frag}{E:XE}{e c:Expr}{es:List Expr}{x:Str}{p pos:Pos}{k:Nat}{ps:List Str}{F:DS.Fn}{am:DS.AM}{m mc:DS.EM}{ms:DS.SM}
end
section
variable {P:Program}{w:World}{K:PySem.W.Frag}{mg:Str->Option Value}{base:Heap}{N:List Str}{qual:Str}{scope:Scope}{f:Addr}{cd:Value}{A:Around}{outer:List Env}{s:Shared}{H:Hp}{EX:XK}
theorem zRt(G:Gd K mg){C:Nat}{fl cn:Str}{e:Expr}{am:DS.AM}{p pos pos':Pos}(I:IniX P w K mg base C fl)(hr:Room 2 (cxOf (CXE P w) P w K mg base N qual scope f cd A outer s H EX).A)
  (h:(nst e && (clnB (cxOf (CXE P w) P w K mg base N qual scope f cd A outer s H EX) K cn C && (PySem.W.keepIn K (.ref C) && (clsB K C && (noaB K C fl && zHh K C)))))=true)
  (ha:DA (cxOf (CXE P w) P w K mg base N qual scope f cd A outer s H EX) K (xeOf K EX) [e] am):
  DS1 (cxOf (CXE P w) P w K mg base N qual scope f cd A outer s H EX) K (xeOf K EX) (.Raise (some (.Call (.Name cn p) [e] [] pos)) none pos') (DS.zMm (DS.mkX C fl) am):=by
 simp only[xl]at h;obtain⟨h0,h1,h2,h3,h4,h5⟩:=h;have y:=zS0 (X:=cxOf (CXE P w) P w K mg base N qual scope f cd A outer s H EX) G h1;obtain⟨fI,fd,s0,x0,F,hb,M⟩:=I.ex;exact zOd PySem.F.excBase_ValueError M F hr hb y.1 y.2.2 h2 (zRz h3) (by simpa[noaB,NoAttr]using h4) h5 ha y.2.1 (zBd h0)
end
section
variable {X:Cx}{K:PySem.W.Frag}{E:XE}{e c:Expr}{es:List Expr}{x:Str}{p pos:Pos}{k:Nat}{ps:List Str}{F:DS.Fn}{am:DS.AM}{m mc:DS.EM}{ms:DS.SM}
end
section
variable {P:Program}{w:World}{K:PySem.W.Frag}{mg:Str->Option Value}{base:Heap}
theorem CalX.cal(h:CalX P w K mg base x k ps F):Cal P w K mg base x k ps (spOf K XE0 (DS.neF F)):=by
 obtain⟨f,fd,Fn,h2,h3,h4⟩:=h.ex;refine⟨f,fd,⟨λvs H Q E q=>?_,λA outer s H args us vs Q E hr he hb hv q=>?_⟩,h2,h3,h4⟩
 ·obtain⟨J,S,ds,a1,r,q⟩:=q;exact Fn.len vs H (λ_ _=>True) E0 ⟨J,S,ds,a1,r,Post.impE (λ_ _ _ _ z=>z.elim) ((Post.ne q).imp λ_ _ _ _ _ _ _ _ _ _=>trivial)⟩
 ·obtain⟨J,S,ds,a1,r,q⟩:=q;refine codeAny_mono (Fn.run A outer s H args us vs Q E0 hr he hb hv ⟨J,S,ds,a1,r,Post.impE (λ_ _ _ _ z=>z.elim) (Post.ne q)⟩) λr s' hq=>?_
  cases r with
  | ok fl=>cases fl <;> exact hq
  | error e=>obtain⟨_,_,_,_,_,_,_,_,_,_,_,_,_,_,_,_,_,z⟩:=hq;exact z.elim
end
end L2
namespace RP
open PySem
def Flat{α:Type}:Sem α->Prop
 | .pure _=>True
 | .raise _=>True
 | .unsupported _=>True
 | .rule _ k=>∀x,Flat (k x)
 | .at _ k=>∀x,Flat (k x)
 | .load _ _ k=>∀x,Flat (k x)
 | .update _ _ _ k=>∀x,Flat (k x)
 | .alloc _ k=>∀x,Flat (k x)
 | .loadIfAlive _ k=>∀x,Flat (k x)
 | .point _ k=>∀x,Flat (k x)
 | .fresh k=>∀x,Flat (k x)
 | .ask k=>∀x,Flat (k x)
 | .stack k=>∀x,Flat (k x)
 | _=>False
theorem Flat.bind{α β:Type}{t:Sem α}{f:α->Sem β}(h:Flat t)(k:∀a,Flat (f a)):Flat (t.bind f):=by
 induction t with
 | pure a=>exact k a
 | raise e=>trivial
 | unsupported _=>trivial
 | rule _ _ ih=>exact λx=>ih x (h x)
 | «at» _ _ ih=>exact λx=>ih x (h x)
 | load _ _ _ ih=>exact λx=>ih x (h x)
 | update _ _ _ _ ih=>exact λx=>ih x (h x)
 | alloc _ _ ih=>exact λx=>ih x (h x)
 | loadIfAlive _ _ ih=>exact λx=>ih x (h x)
 | point _ _ ih=>exact λx=>ih x (h x)
 | fresh _ ih=>exact λx=>ih x (h x)
 | ask _ ih=>exact λx=>ih x (h x)
 | stack _ ih=>exact λx=>ih x (h x)
 | _=>exact h.elim
theorem zX7{α:Type}:∀{t:Sem α}(_:Flat t) {Q Q':α->Pos->Shared->Prop}{E E':Value->Pos->Shared->Prop}{p:Pos}{s:Shared},Sem.wp M Γ t Q E p s->Sem.wp M Γ t Q' E' p s->Sem.wp M Γ t (λa p s=>Q a p s/\Q' a p s) (λa p s=>E a p s/\E' a p s) p s:=by
 intro t f;induction t with
 | pure a=>exact λh h'=>⟨h,h'⟩
 | raise e=>exact λh h'=>⟨h,h'⟩
 | unsupported _=>exact λh _=>h
 | rule _ _ ih=>exact λh h'=>ih _ (f _) h h'
 | «at» _ _ ih=>exact λh h'=>ih _ (f _) h h'
 | load _ _ _ ih=>
  intro Q Q' E E' p s h h';obtain⟨o,e,h⟩:=h;obtain⟨o',e',h'⟩:=h';rw[e]at e';cases e';exact⟨o,e,ih o (f o) h h'⟩
 | update _ _ _ _ ih=>exact λh h'=>⟨h.1,ih _ (f _) h.2 h'.2⟩
 | alloc _ _ ih=>exact λh h'=>ih _ (f _) h h'
 | loadIfAlive _ _ ih=>exact λh h'=>ih _ (f _) h h'
 | point _ _ ih=>exact λh h'=>ih _ (f _) h h'
 | fresh _ ih=>exact λh h'=>ih _ (f _) h h'
 | ask _ ih=>exact λh h'=>ih _ (f _) h h'
 | stack _ ih=>exact λh h'=>ih _ (f _) h h'
 | _=>exact f.elim
theorem zM4{α:Type}{t:Sem α}(f:Flat t){Q Q':α->Shared->Prop}{E E':Value->Shared->Prop}(h:wpAny M A t Q E s)(h':wpAny M A t Q' E' s):wpAny M A t (λa s=>Q a s/\Q' a s) (λa s=>E a s/\E' a s) s:=
 λΓ p hΓ=>zX7 f (h Γ p hΓ) (h' Γ p hΓ)
theorem zLf(L:Addr)(x:Str)(v:Value):Flat (nsSet L x v):=by
 unfold nsSet;refine Flat.bind ?_ λh=>Flat.bind (λ_=>trivial) λk=>Flat.bind ?_ λo=>?_
 ·exact λ_=>trivial
 ·exact λ_=>trivial
 ·show Flat (match o.data with|.dict es _=>_|_=>_);split
  ·split
   ·trivial
   ·exact λ_=>trivial
  ·trivial
open PySem.Spec PyProof.Rows L2
section
variable {X:Cx}{pins:List (Addr × Obj)}{σ:L2.St}{H:Hp}{s:Shared}{text sign:Str}{x y c:Str}{t u:Tok}{n:Nat}{m:Str->Option Value}
theorem len_app(a b:Str):(a++b).length=a.length+b.length:=by show(a.cps++b.cps).size=_;exact Array.size_append
theorem addS{a b:Str}{Q:Value->Shared->Prop}{E:Value->Shared->Prop}(la:1<=a.length)(lb:1<=b.length)(hz:a.length+b.length<=1000)(q:Q (.str (a++b) s.toks) { s with toks:=s.toks+1 }):wpAny (model X.prog X.w) X.A (binaryOp .Add (.str a ta) (.str b tb)) Q E s:=by refine PySem.P.add_str ?_;rw[xf (by simp;omega),xf (by simp;omega)];refine⟨?_,q⟩;rw[len_app];exact xq hz (by decide)
theorem zQ9{p1 p2 p3 p4 p5 p6 p7 ap cp:Pos}{k1 k2:Nat}{Q:Value->Shared->Prop}{E:Value->Shared->Prop}(hk:X.env.scope.kind=.function)(kt:X.env.kindOf text=some .local)(ks:X.env.kindOf sign=some .local)(hns:s.heap.Ns X.env.locals m)(mt:m text=some (.str x t))(ms:m sign=some (.str y u))
  (h0:u≠0) (hu:u<n) (hn:n<=s.toks) (ly:1<=y.length) (lc:1<=c.length) (lx:x.length<=1048576) (lz:c.length+y.length+c.length<=14)
  (dt:(text == ("__debug__":Str))=false) (ds:(sign == ("__debug__":Str))=false) (hl:(ap.endLine == cp.line)=true) (q:∀t' k,n<=k->Q (.str (Txt.replace x y (c++y++c)) t') { s with toks:=k }):
  wpAny (model X.prog X.w) X.A (eval (.Call (.Attribute (.Name text p1) "replace" ap) [.Name sign p2,.BinOp (.BinOp (.Constant (.str c) k1 p3) .Add (.Name sign p4) p5) .Add (.Constant (.str c) k2 p6) p7] [] cp) X.env) Q E s:=by
 have ldt:∀(k:Nat) (p:Pos) (Q:Value->Shared->Prop) (E:Value->Shared->Prop),Q (.str x t) { s with toks:=k }->wpAny (model X.prog X.w) X.A (eval (.Name text p) X.env) Q E { s with toks:=k }:=λk p Q E h=>wpAny_Name (wpAny_loadName_local hk kt hns mt h) dt
 have lds:∀(k:Nat) (p:Pos) (Q:Value->Shared->Prop) (E:Value->Shared->Prop),Q (.str y u) { s with toks:=k }->wpAny (model X.prog X.w) X.A (eval (.Name sign p) X.env) Q E { s with toks:=k }:=λk p Q E h=>wpAny_Name (wpAny_loadName_local hk ks hns ms h) ds
 refine wpAny_Call_method_late rfl (by rfl) hl rfl (ldt s.toks p1 _ _ ?_);refine⟨"str","str.replace",uY,PySem.F.slot_str_replace,PySem.F.type_str_replace,typeIs_str _ _ _,λa z=>(nomatch z),?_⟩;refine Calls.callWith_builtin (by rfl) (Calls.evalArgs_plain ?_);refine vL (lds s.toks p2 _ _ ?_);refine vL (wpAny_BinOp (wpAny_BinOp (uh (lds (s.toks+1) p4 _ _ ?_))));refine addS lc ly (by omega) ?_;refine uh (addS (by rw[len_app];omega) lc (by rw[len_app];omega) ?_);refine um ?_;refine wpAny_with_toks (n:=n) (by show n<=s.toks+1+1+1+1;omega) ?_;refine SC.replaceW h0 (by show s.toks+1+1+1≠0;omega) (xy (xw hu (by show n<=s.toks+1+1+1;omega))) (beq_eq_false_iff_ne.mpr λe=>?_) lx (by rw[len_app,len_app];exact lz) λt' k hk=>q t' k hk
 have:=congrArg Str.length e;rw[len_app,len_app]at this
 omega
end
section
variable {X:Cx}{pins:List (Addr × Obj)}{σ:L2.St}{H:Hp}{s:Shared}{text sign:Str}{x y c:Str}{n jt js:Nat}{a it:Addr}{items:Array Value}
structure At (X:Cx) (pins:List (Addr × Obj)) (H:Hp) (a it:Addr) (items:Array Value) (n i:Nat) (σ:L2.St) (s:Shared):Prop where
 inv:Inv X pins σ H s
 itr:s.heap.IsTupleIter it a i
 tup:s.heap.IsTuple a items
 fp:FpOk X pins H it
 ne:a≠it
 nl:a≠X.env.locals
 tk:n<=s.toks
structure Nms (X:Cx) (text sign:Str) (jt js:Nat):Prop where
 nd:X.N.Nodup
 it:X.N[jt]?=some text
 is:X.N[js]?=some sign
 kt:X.env.kindOf text=some .local
 ks:X.env.kindOf sign=some .local
 dt:(text == ("__debug__":Str))=false
 ds:(sign == ("__debug__":Str))=false
theorem Nms.ne(h:Nms X text sign jt js)(hn:text≠sign):jt≠js:=λe=>by
 have a:=h.it;rw[e,h.is]at a;exact hn (xB a).symm
theorem zKs{u:Tok}{A:Around}{E:Value->Shared->Prop}{Q:Unit->Shared->Prop}(N:Nms X text sign jt js)(hn:text≠sign)(P:At X pins H a it items n i σ s)(hx:σ[jt]?=some (some v0))
  (q:∀s' m,At X pins H a it items n i (σ.set js (some (.str y))) s'->s'.heap.Ns X.env.locals m->m sign=some (.str y u)->(∃w,RelV v0 w/\m text=some w)->Q () s'):wpAny (model X.prog X.w) A (storeName X.env sign (.str y u)) Q E s:=by
 obtain⟨m,hns,hl⟩:=id P.inv.loc;obtain⟨w,rw',lk⟩:=hl jt text v0 N.it hx (.inl N.kt);have mw:m text=some w:=by
  rcases lk with⟨_,e⟩|⟨e|e,_⟩
  ·exact e
  ·rw[N.kt]at e;cases e
  ·rw[N.kt]at e;cases e
 have hcls:(X.env.scope.kind == .class || (X.env.scope.kind == .module && X.env.locals != X.env.globals))=false:=by rw[P.inv.ok.kind];rfl
 have fl:Flat (storeName X.env sign (.str y u)):=by rw[storeName_local N.ks hcls];exact zLf _ _ _
 have A1:wpAny (model X.prog X.w) A (storeName X.env sign (.str y u)) (λ_ s'=>Inv X pins (σ.set js (some (.str y))) H s'/\∃b,Heap.SameBut b s.heap s'.heap/\(b=X.env.locals\/X.env.cells.lookup sign=some b)) (λ_ _=>False) s:=
  zDf P.inv N.nd N.is (.inl N.ks) (show RelV (.str y) (.str y u)from⟨u,rfl⟩) (λs' I' k=>⟨I',k⟩) (.inr N.ks)
 have A2:wpAny (model X.prog X.w) A (storeName X.env sign (.str y u)) (λ_ s'=>s'.heap.Ns X.env.locals (λz=>if z=sign then some (.str y u)else m z)/\Heap.SameBut X.env.locals s.heap s'.heap/\s.toks<=s'.toks) (λ_ _=>False) s:=
  wpAny_storeName_local N.ks hns (λh' hn' sb=>⟨hn',sb,ub _⟩) hcls
 refine vd (zM4 fl A1 A2) (λ_ s' k=>?_) λe s' k=>k.1.elim
 ·obtain⟨⟨I',_⟩,hn',sb,tk⟩:=k;have kp:∀b,b≠X.env.locals->∀o,s.heap.get? b=some o->s'.heap.get? b=some o:=λb hb o e=>(sb.2 b hb).trans e
  refine q s' _ ⟨I',P.itr.at (kp it P.fp.2.1),?_,P.fp,P.ne,P.nl,xq P.tk tk⟩ hn' (by simp) ⟨w,rw',by simp[hn,mw]⟩;obtain⟨o,e,r⟩:=P.tup;exact⟨o,kp a P.nl o e,r⟩
theorem zKr{z:Str}{w:Tok}{A:Around}{E:Value->Shared->Prop}{Q:Unit->Shared->Prop}(N:Nms X text sign jt js)(P:At X pins H a it items n i σ s)
  (q:∀s',At X pins H a it items n i (σ.set jt (some (.str z))) s'->Q () s'):wpAny (model X.prog X.w) A (storeName X.env text (.str z w)) Q E s:=by
 refine wpAny_with_toks P.tk ?_;refine zDf P.inv N.nd N.it (.inl N.kt) (show RelV (.str z) (.str z w)from⟨w,rfl⟩) (λs' I' ⟨b,sb,hb⟩ tk=>q s' ?_) (.inr N.kt);have hit:it≠b:=by
  rcases hb with rfl|hb
  ·exact P.fp.2.1
  ·exact(P.fp.2.2.2.2.1 _ _ hb).symm
 have ha:a≠b:=by
  rcases hb with rfl|hb
  ·exact P.nl
  ·exact λe=>by
    obtain⟨v,hc⟩:=P.inv.cell _ _ hb;obtain⟨o,e1,_,m,e2⟩:=P.tup;obtain⟨o',e3,e4⟩:=hc;rw[<- e,e1]at e3;cases e3;rw[e2]at e4;cases e4
 refine⟨I',P.itr.at λo e=>(sb.2 it hit).trans e,?_,P.fp,P.ne,P.nl,tk⟩;obtain⟨o,e,r⟩:=P.tup;exact⟨o,(sb.2 a ha).trans e,r⟩
theorem zM8{q1 p1 p2 p3 p4 p5 p6 p7 p8 ap cp pos:Pos}{k1 k2:Nat}{R:Shared->Prop}(hp:PassesOwn (model X.prog X.w) X.A X.env X.xe)(N:Nms X text sign jt js)(hn:text≠sign)(P:At X pins H a it items n i σ s)(hx:σ[jt]?=some (some (.str x)))(hy:items[i]?=some (.str y u))
  (h0:u≠0) (hu:u<n) (ly:1<=y.length) (lc:1<=c.length) (lx:x.length<=1048576) (lz:c.length+y.length+c.length<=14) (hl:(ap.endLine == cp.line)=true) (hs:swapsWith (.Call (.Attribute (.Name text p1) "replace" ap) [.Name sign p2,.BinOp (.BinOp (.Constant (.str c) k1 p3) .Add (.Name sign p4) p5) .Add (.Constant (.str c) k2 p6) p7] [] cp) (some (.Name text p8)) pos.line X.env=pure false)
  (q:∀s',At X pins H a it items n (i+1) ((σ.set js (some (.str y))).set jt (some (.str (Txt.replace x y (c++y++c))))) s'->R s'):
  wpAny (model X.prog X.w) X.A (pyNext (.ref it)) (λr s1=>∃v,r=some v/\wpAny (model X.prog X.w) X.A (letOwnedTupleGo (.Name sign q1) (.ref it) v) (λ_ s1'=>wpAny (model X.prog X.w) X.A (assign (.Name sign q1) X.env v) (λ_ s2=>
   wpAny (model X.prog X.w) X.A (execs [.Assign [.Name text p8] (.Call (.Attribute (.Name text p1) "replace" ap) [.Name sign p2,.BinOp (.BinOp (.Constant (.str c) k1 p3) .Add (.Name sign p4) p5) .Add (.Constant (.str c) k2 p6) p7] [] cp) pos] X.env) (λf s3=>f=.next/\R s3) X.xe s2) X.xe s1') X.xe s1) X.xe s:=by
 refine wpAny_with_toks P.tk ?_;refine wpAny_pyNext_tuple_item P.itr P.tup hy λh' st' sb tk=>?_
 obtain⟨f0,f1,f2,f3,f4,f5⟩:=P.fp;have I1:Inv X pins σ H { s with heap:=h' }:=P.inv.turned (t':=s.toks) (λb o hb e=>(sb.2 b hb).trans e) f0 f1 f3 f4 f5;have P1:At X pins H a it items n (i+1) σ { s with heap:=h' }:=⟨I1,st',(by obtain⟨o,e,r⟩:=P.tup;exact⟨o,(sb.2 a P.ne).trans e,r⟩),P.fp,P.ne,P.nl,tk⟩;obtain⟨o,e,cc,d⟩:=id st';refine⟨_,rfl,zO2 (s:={ s with heap:=h' }) e cc d (by decide) ?_⟩;refine wpAny_assign_Name (zKs N hn P1 hx λs2 m P2 hns ms hq1=>?_);obtain⟨w,rw',mt⟩:=hq1;obtain⟨t,rfl⟩:=(show ∃t,w=Value.str x t from rw');refine uB (wpAny_Assign_Name (zQ9 P2.inv.ok.kind N.kt N.ks hns mt ms h0 hu P2.tk ly lc lx lz N.dt N.ds hl λt' k hk=>?_) hs);have P3:At X pins H a it items n (i+1) (σ.set js (some (.str y))) { s2 with toks:=k }:=⟨P2.inv.tok k,P2.itr,P2.tup,P2.fp,P2.ne,P2.nl,hk⟩;exact zKr N P3 λs3 P4=>ui ⟨rfl,q s3 P4⟩
end
section
variable {X:Cx}{text sign:Str}{c y1 y2 y3:Str}{jt js:Nat}
def PSM(X:Cx)(st:Stmt)(t:TS):Prop:=
 ∀(pins:List (Addr × Obj)) (s:Shared) (σ:L2.St) (H:Hp) (D:Ends),Inv X pins σ H s->1<=s.toks->t D σ H->wpAny (model X.prog X.w) X.A (exec st X.env) (SP X pins D) X.xe s
noncomputable def rep (c x y:Str):Str:=Txt.replace x y (c++y++c)
noncomputable def tRepl (jt js:Nat) (c y1 y2 y3:Str):TS:=λD σ H=>∃x,σ[jt]?=some (some (.str x))/\x.length<=1048576/\(rep c x y1).length<=1048576/\(rep c (rep c x y1) y2).length<=1048576 /\
 D.nx ((σ.set js (some (.str y3))).set jt (some (.str (rep c (rep c (rep c x y1) y2) y3)))) H
theorem sets{σ:L2.St}{i j:Nat}(h:i≠j):(((σ.set j a).set i b).set j u).set i v=(σ.set j u).set i v:=by rw[List.set_comm (i:=i) (j:=j) _ _ h,List.set_set,List.set_set]
theorem gets{σ:L2.St}{i j:Nat}(h:σ[i]?=some v):((σ.set j a).set i b)[i]?=some b:=by have:i<σ.length:=(xC.mp h).1;simp[this]
theorem ps_repl{q1 pt pos p1 p2 p3 p4 p5 p6 p7 p8 ap cp pos' pa pb pc:Pos}{kt k1 k2 ka kb kc:Nat}(hp:PassesOwn (model X.prog X.w) X.A X.env X.xe)(hc:X.calm=true)(N:Nms X text sign jt js)(hn:text≠sign)
  (h1:1<=y1.length) (h2:1<=y2.length) (h3:1<=y3.length) (lc:1<=c.length) (z1:c.length+y1.length+c.length<=14) (z2:c.length+y2.length+c.length<=14) (z3:c.length+y3.length+c.length<=14)
  (hl:(ap.endLine == cp.line)=true) (hs:swapsWith (.Call (.Attribute (.Name text p1) "replace" ap) [.Name sign p2,.BinOp (.BinOp (.Constant (.str c) k1 p3) .Add (.Name sign p4) p5) .Add (.Constant (.str c) k2 p6) p7] [] cp) (some (.Name text p8)) pos'.line X.env=pure false)
  (hf:∀x,foldedSetIterable (.Tuple [.Constant (.str y1) ka pa,.Constant (.str y2) kb pb,.Constant (.str y3) kc pc] kt pt) X.env x=pure x:=by intro _;rfl):
  PSM X (.For (.Name sign q1) (.Tuple [.Constant (.str y1) ka pa,.Constant (.str y2) kb pb,.Constant (.str y3) kc pc] kt pt)
   [.Assign [.Name text p8] (.Call (.Attribute (.Name text p1) "replace" ap) [.Name sign p2,.BinOp (.BinOp (.Constant (.str c) k1 p3) .Add (.Name sign p4) p5) .Add (.Constant (.str c) k2 p6) p7] [] cp) pos'] [] pos) (tRepl jt js c y1 y2 y3):=by
 intro pins s σ H D I ht hq45;obtain⟨x,hx,l1,l2,l3,q⟩:=hq45;refine wpAny_For (wpAny_Tuple ?_) hf;refine vL (uh (k:=ka) (pos:=pa) (vL (uh (k:=kb) (pos:=pb) (vL (uh (k:=kc) (pos:=pc) (um ⟨(by show 3<=sizeLine;decide),?_⟩))))));generalize hitems:#[Value.str y1 s.toks,Value.str y2 (s.toks+1),Value.str y3 (s.toks+1+1)]=items;have e1:items[0]?=some (.str y1 s.toks):=by subst hitems;rfl
 have e2:items[1]?=some (.str y2 (s.toks+1)):=by subst hitems;rfl
 have e3:items[2]?=some (.str y3 (s.toks+1+1)):=by subst hitems;rfl
 have e4:items[3]?=none:=by subst hitems;rfl
 -- the tuple,its iterator
 generalize hT:s.heap.push { cls:=.type "tuple",data:=.seq items }=hp1;have kk1:∀b o,s.heap.get? b=some o->hp1.get? b=some o:=λb o e=>by subst hT;exact xm _ e
 have I1:Inv X pins σ H { s with heap:=hp1,toks:=s.toks+3 }:=I.kept (t':=s.toks+3) kk1;have T1:hp1.IsTuple s.heap.objs.size items:=by subst hT;exact⟨_,xD _ rfl,rfl,_,rfl⟩
 have nl:s.heap.objs.size≠X.env.locals:=xX I.lt;have lt1:s.heap.objs.size<hp1.objs.size:=by obtain⟨o,e,_⟩:=T1;exact xn e
 refine wpAny_pyIter_tuple (s:={ s with heap:=hp1,toks:=s.toks+3 }) (items:=items) T1 ?_;generalize hI:hp1.push { cls:=.type "tuple_iterator",data:=.fields #[.ref s.heap.objs.size,.int 0 0] }=hp2;have kk2:∀b o,hp1.get? b=some o->hp2.get? b=some o:=λb o e=>by subst hI;exact xm _ e
 have I2:Inv X pins σ H { s with heap:=hp2,toks:=s.toks+3 }:=I1.kept (t':=s.toks+3) kk2;have P0:At X pins H s.heap.objs.size hp1.objs.size items (s.toks+3) 0 σ { s with heap:=hp2,toks:=s.toks+3 }:=by
  refine⟨I2,?_,?_,I1.fpOk (xh _) (I1.hok.fresh (xh _)),xy lt1,nl,xh _⟩
  ·subst hI;exact⟨_,xD _ rfl,rfl,rfl⟩
  ·obtain⟨o,e,r⟩:=T1;exact⟨o,kk2 _ _ e,r⟩
 have step:∀{m i:Nat}{σ':L2.St}{s':Shared}{x y:Str}{u:Tok}{J:Nat->Shared->Prop},At X pins H s.heap.objs.size hp1.objs.size items (s.toks+3) i σ' s'->σ'[jt]?=some (some (.str x))->items[i]?=some (.str y u)->u≠0->u<s.toks+3->1<=y.length->x.length<=1048576->c.length+y.length+c.length<=14->
   (∀s3,At X pins H s.heap.objs.size hp1.objs.size items (s.toks+3) (i+1) ((σ'.set js (some (.str y))).set jt (some (.str (rep c x y)))) s3->J m s3)->
   wpAny (model X.prog X.w) X.A (pyNext (.ref hp1.objs.size)) (λr s₁=>match r with
    | none=>wpAny (model X.prog X.w) X.A (execs [] X.env) (λf s₃=>SP X pins D f s₃) (notedBy (model X.prog X.w) X.A X.env (cameBackBy (model X.prog X.w) X.A X.env X.xe)) s₁
    | some v=>wpAny (model X.prog X.w) X.A (letOwnedTupleGo (.Name sign q1) (.ref hp1.objs.size) v) (λ_ s₁'=>
      wpAny (model X.prog X.w) X.A (assign (.Name sign q1) X.env v) (λ_ s₂=>wpAny (model X.prog X.w) X.A (execs [.Assign [.Name text p8] (.Call (.Attribute (.Name text p1) "replace" ap) [.Name sign p2,.BinOp (.BinOp (.Constant (.str c) k1 p3) .Add (.Name sign p4) p5) .Add (.Constant (.str c) k2 p6) p7] [] cp) pos'] X.env) (λf s₃=>match f with
       | .next|.cont=>∃m',m'<m+1/\J m' s₃
       | .brk=>SP X pins D .next s₃
       | .ret v=>SP X pins D (.ret v) s₃) (notedBy (model X.prog X.w) X.A X.env (cameBackBy (model X.prog X.w) X.A X.env X.xe)) s₂) (notedBy (model X.prog X.w) X.A X.env (cameBackBy (model X.prog X.w) X.A X.env X.xe)) s₁') (notedBy (model X.prog X.w) X.A X.env (cameBackBy (model X.prog X.w) X.A X.env X.xe)) s₁)
    (notedBy (model X.prog X.w) X.A X.env (cameBackBy (model X.prog X.w) X.A X.env X.xe)) s':=by
  intro m i σ' s' x y u J P hx hy h0 hu ly lx lz k;refine vm hp (thn (zM8 (R:=J m) (q1:=q1) hp N hn P hx hy h0 hu ly lc lx lz hl hs k) λr s1 h=>?_);obtain⟨v,rfl,h⟩:=h;refine vm hp (thn h λ_ s2 h=>?_);refine vm hp (thn h λ_ s3 h=>?_);refine vm hp (thn h λf s4 h=>?_);obtain⟨rfl,h⟩:=h;exact⟨m,uv m,h⟩
 have ne:=N.ne hn;generalize hz1:rep c x y1=x1 at *;generalize hz2:rep c x1 y2=x2 at *;generalize hz3:rep c x2 y3=x3 at *;generalize hS1:(σ.set js (some (V.str y1))).set jt (some (V.str x1))=S1;generalize hS2:(S1.set js (some (V.str y2))).set jt (some (V.str x2))=S2;generalize hS3:(S2.set js (some (V.str y3))).set jt (some (V.str x3))=S3;have g1:S1[jt]?=some (some (.str x1)):=by subst hS1;exact gets hx
 have g2:S2[jt]?=some (some (.str x2)):=by subst hS2;exact gets g1
 have fin:S3=(σ.set js (some (.str y3))).set jt (some (.str x3)):=by subst hS3 hS2 hS1;rw[sets ne,sets ne]
 refine codeAny_forLoop_any (λn s'=>(n=3/\At X pins H s.heap.objs.size hp1.objs.size items (s.toks+3) 0 σ s')\/(n=2/\At X pins H s.heap.objs.size hp1.objs.size items (s.toks+3) 1 S1 s')\/(n=1/\At X pins H s.heap.objs.size hp1.objs.size items (s.toks+3) 2 S2 s')\/(n=0/\At X pins H s.heap.objs.size hp1.objs.size items (s.toks+3) 3 S3 s')) ?_ 3 (.inl ⟨rfl,P0⟩);rintro n s' (⟨rfl,P⟩|⟨rfl,P⟩|⟨rfl,P⟩|⟨rfl,P⟩)
 ·exact step (u:=s.toks) P hx e1 (xX ht) (Nat.lt_add_of_pos_right (by decide)) h1 l1 z1 λs3 P3=>.inr (.inl ⟨rfl,by rw[hz1,hS1]at P3;exact P3⟩)
 ·exact step (u:=s.toks+1) P g1 e2 (Nat.succ_ne_zero _) (Nat.add_lt_add_left (by decide) _) h2 l2 z2 λs3 P3=>.inr (.inr (.inl ⟨rfl,by rw[hz2,hS2]at P3;exact P3⟩))
 ·exact step (u:=s.toks+1+1) P g2 e3 (Nat.succ_ne_zero _) (uv _) h3 l3 z3 λs3 P3=>.inr (.inr (.inr ⟨rfl,by rw[hz3,hS3]at P3;exact P3⟩))
 ·obtain⟨f0,f1,f2,f3,f4,f5⟩:=P.fp;refine vm hp (wpAny_pyNext_tuple_end (P.inv.ok.hd hc) P.itr P.tup e4 λh' eb=>?_);have I3:Inv X pins S3 H { s' with heap:=h' }:=P.inv.turned (t':=s'.toks) (λb o hb e=>eb b o hb e) f0 f1 f3 f4 f5;exact ui ⟨S3,H,I3,by rw[fin];exact q⟩
end
section
variable {X:Cx}{rest:List Stmt}{st:Stmt}{t u:TS}
theorem zVw{M:Model}{A:Around}{env:Env}{c:Str}{k:Nat}{p p1 p2:Pos}{a b:List Stmt}{Q:Flow->Shared->Prop}{E:Value->Shared->Prop}{s:Shared}(hm:behindInMarks op r=false)
  (h:wpAny M A (exec (.If (.Compare (.Constant (.str c) k p) [op] [r] p1) a b p2) env) Q E s):wpAny M A (exec (.If (.Compare (.Constant (.str c) k p) [op] [r] p1) a b p2) env) (λf s'=>1<=s'.toks/\Q f s') E s:=λΓ q hΓ=>by
 have h:=h Γ q hΓ;simp only[exec_If,isTrue_Compare1,markedBehindIn_of_false hm,Sem.wp_bind',Sem.wp_holding,Sem.wp_cmd_standAt,Sem.wp_operate]at h ⊢;have up:∀{α:Type}{u:Sem α}{F G:α->Pos->Shared->Prop}{p:Pos}{s:Shared},1<=s.toks->(∀a p' s',1<=s'.toks->F a p' s'->G a p' s')->Sem.wp M Γ u F (λx _ s'=>E x s') p s->Sem.wp M Γ u G (λx _ s'=>E x s') p s:=λhn k hw=>
  Sem.wp_mono M Γ _ (λa p' s' h'=>k a p' s' h'.1 h'.2) (λ_ _ _ h'=>h'.2) _ _ (Sem.wp_toks M Γ 1 _ _ _ _ _ hn hw)
 exact up (s:={ s with toks:=s.toks+1 }) (Nat.le_add_left 1 s.toks) (λ_ _ _ n1 h=>up n1 (λ_ _ _ n2 h=>up n2 (λ_ _ _ n3 h=>up n3 (λb _ _ n4 h=>by cases b <;> exact up n4 (λ_ _ _ n5 h=>⟨n5,h⟩) h) h) h) h) h
def PSsM(X:Cx)(st:List Stmt)(t:TS):Prop:=
 ∀(pins:List (Addr × Obj)) (s:Shared) (σ:L2.St) (H:Hp) (D:Ends),Inv X pins σ H s->1<=s.toks->t D σ H->wpAny (model X.prog X.w) X.A (execs st X.env) (SP X pins D) X.xe s
theorem pssM_cons(h1:PSM X st t)(h2:PSs X rest u):PSsM X (st::rest) (tSeq t u):=by
 intro pins s σ H D I ht h;refine uB (thn (h1 pins s σ H { D with nx:=u D } I ht h) λf s1 q=>?_);cases f with
 | next=>
  obtain⟨σ',H',I',q⟩:=q;exact h2 pins s1 σ' H' D I' q
 | ret v=>exact q
 | brk=>exact q
 | cont=>exact q
theorem pss_mark{k:Nat}(hm:behindInMarks op r=false)(h1:PS X (.If (.Compare (.Constant (.str c) k p) [op] [r] p1) a b p2) t)(h2:PSsM X rest u):
  PSs X (.If (.Compare (.Constant (.str c) k p) [op] [r] p1) a b p2::rest) (tSeq t u):=by
 intro pins s σ H D I h;refine uB (thn (zVw hm (h1 pins s σ H { D with nx:=u D } I h)) λf s1 q=>?_);obtain⟨hn,q⟩:=q;cases f with
 | next=>
  obtain⟨σ',H',I',q⟩:=q;exact h2 pins s1 σ' H' D I' hn q
 | ret v=>exact q
 | brk=>exact q
 | cont=>exact q
end
end RP
namespace L2
open PySem PySem.Spec PyProof.Rows
open DS (D Store Exn Rs SR)
section
variable {X:Cx}{K:PySem.W.Frag}{E:XE}{rest:List Stmt}{ms mv:DS.SM}{text sign:Str}{c y1 y2 y3 c0:Str}
theorem zMl{jt js:Nat}(env:DS.Env)(S:Store):(∃x,env[jt]?=some (some (.str x))/\(x.length<=1048576/\(DS.rep c x y1).length<=1048576/\(DS.rep c (DS.rep c x y1) y2).length<=1048576) /\
  DS.zG4 jt js c y1 y2 y3 env S=.nx ((env.set js (some (.str y3))).set jt (some (.str (DS.rep c (DS.rep c (DS.rep c x y1) y2) y3)))) S)\/DS.zG4 jt js c y1 y2 y3 env S=.bad:=by
 unfold DS.zG4;split
 ·rename_i x ex;split
  ·rename_i hl;exact .inl ⟨x,ex,hl,rfl⟩
  ·exact .inr rfl
 ·exact .inr rfl
theorem zRw(jt js:Nat){q1 pt pos p1 p2 p3 p4 p5 p6 p7 p8 ap cp pos' pa pb pc b0 b1 b2:Pos}{kt k0 k1 k2 ka kb kc:Nat}{op:CmpOp}{r:Expr}{a b:List Stmt}
  (h1:DS1 X K E (.If (.Compare (.Constant (.str c0) k0 b0) [op] [r] b1) a b b2) ms) (h2:DSs X K E rest mv)
  (hp:PassesOwn (model X.prog X.w) X.A X.env X.xe) (hc:X.calm=true) (N:RP.Nms X text sign jt js)
  (hm:behindInMarks op r=false:=by with_unfolding_all rfl) (hn:text≠sign:=by decide)
  (ly1:1<=y1.length:=by decide) (ly2:1<=y2.length:=by decide) (ly3:1<=y3.length:=by decide) (lc:1<=c.length:=by decide) (z1:c.length+y1.length+c.length<=14:=by decide) (z2:c.length+y2.length+c.length<=14:=by decide) (z3:c.length+y3.length+c.length<=14:=by decide)
  (hl:(ap.endLine == cp.line)=true:=by rfl) (hs:swapsWith (.Call (.Attribute (.Name text p1) "replace" ap) [.Name sign p2,.BinOp (.BinOp (.Constant (.str c) k1 p3) .Add (.Name sign p4) p5) .Add (.Constant (.str c) k2 p6) p7] [] cp) (some (.Name text p8)) pos'.line X.env=pure false:=by rfl):
  DSs X K E (.If (.Compare (.Constant (.str c0) k0 b0) [op] [r] b1) a b b2::.For (.Name sign q1) (.Tuple [.Constant (.str y1) ka pa,.Constant (.str y2) kb pb,.Constant (.str y3) kc pc] kt pt)
   [.Assign [.Name text p8] (.Call (.Attribute (.Name text p1) "replace" ap) [.Name sign p2,.BinOp (.BinOp (.Constant (.str c) k1 p3) .Add (.Name sign p4) p5) .Add (.Constant (.str c) k2 p6) p7] [] cp) pos'] [] pos::rest)
   (DS.sSeq ms (DS.sSeq (DS.zG4 jt js c y1 y2 y3) mv)):=
 ⟨SSs.imp ⟨RP.pss_mark hm h1.h.h (RP.pssM_cons (RP.ps_repl hp hc N hn ly1 ly2 ly3 lc z1 z2 z3 hl hs) h2.h.h)⟩ λD σ H ⟨env,S,J,ha,he,q⟩=>⟨env,S,J,ha,he,by
  unfold DS.sSeq at q;cases e:ms env S with
  | nx e1 S1=>
   rw[e]at q;intro J' H' σ' h1 g1 h2;show RP.tRepl jt js c y1 y2 y3 _ σ' H';have q:PostS K E J H (match DS.zG4 jt js c y1 y2 y3 e1 S1 with|.nx e S1=>mv e S1|r=>r) D:=q;rcases zMl (c:=c) (y1:=y1) (y2:=y2) (y3:=y3) (jt:=jt) (js:=js) e1 S1 with⟨x,ex,hl,eq⟩|eq
   ·rw[eq]at q;obtain⟨v,ev,rv⟩:=h2.2 jt _ ex;have rv:v=V.str x:=rv;subst rv;exact⟨x,ev,hl.1,hl.2.1,hl.2.2,_,S1,J',h1,(h2.set (d:=.str y3) (v:=.str y3) rfl).set (d:=.str (DS.rep c (DS.rep c (DS.rep c x y1) y2) y3)) (v:=.str (RP.rep c (RP.rep c (RP.rep c x y1) y2) y3)) rfl,PostS.grow g1 q⟩
   ·rw[eq]at q;exact q.elim
  | _=>rw[e]at q;exact q⟩⟩
noncomputable def okR (text sign c y1 y2 y3:Str):Bool:=!(text == sign) && !(text == ("__debug__":Str)) && !(sign == ("__debug__":Str)) && Nat.ble 1 y1.length && Nat.ble 1 y2.length && Nat.ble 1 y3.length && Nat.ble 1 c.length &&
 Nat.ble (c.length+y1.length+c.length) 14 && Nat.ble (c.length+y2.length+c.length) 14 && Nat.ble (c.length+y3.length+c.length) 14
theorem zEq{jt js:Nat}{q1 pt pos p1 p2 p3 p4 p5 p6 p7 p8 ap cp pos' pa pb pc b0 b1 b2:Pos}{kt k0 k1 k2 ka kb kc:Nat}{op:CmpOp}{r:Expr}{a b:List Stmt}
  (h1:DS1 X K E (.If (.Compare (.Constant (.str c0) k0 b0) [op] [r] b1) a b b2) ms) (h2:DSs X K E rest mv)
  (hp:PassesOwn (model X.prog X.w) X.A X.env X.xe) (hc:X.calm=true) (nd:X.N.Nodup) (i1:X.N[jt]?=some text) (i2:X.N[js]?=some sign) (t1:X.env.kindOf text=some .local) (t2:X.env.kindOf sign=some .local)
  (hm:behindInMarks op r=false) (ok:okR text sign c y1 y2 y3=true)
  (hl:(ap.endLine == cp.line)=true) (hs:swapsWith (.Call (.Attribute (.Name text p1) "replace" ap) [.Name sign p2,.BinOp (.BinOp (.Constant (.str c) k1 p3) .Add (.Name sign p4) p5) .Add (.Constant (.str c) k2 p6) p7] [] cp) (some (.Name text p8)) pos'.line X.env=pure false):
  DSs X K E (.If (.Compare (.Constant (.str c0) k0 b0) [op] [r] b1) a b b2::.For (.Name sign q1) (.Tuple [.Constant (.str y1) ka pa,.Constant (.str y2) kb pb,.Constant (.str y3) kc pc] kt pt)
   [.Assign [.Name text p8] (.Call (.Attribute (.Name text p1) "replace" ap) [.Name sign p2,.BinOp (.BinOp (.Constant (.str c) k1 p3) .Add (.Name sign p4) p5) .Add (.Constant (.str c) k2 p6) p7] [] cp) pos'] [] pos::rest)
   (DS.sSeq ms (DS.sSeq (DS.zG4 jt js c y1 y2 y3) mv)):=by
 unfold okR at ok;simp only[xl,vQ,Nat.ble_eq]at ok;obtain⟨⟨⟨⟨⟨⟨⟨⟨⟨a1,a2⟩,a3⟩,a4⟩,a5⟩,a6⟩,a7⟩,a8⟩,a9⟩,a10⟩:=ok;exact zRw jt js h1 h2 hp hc ⟨nd,i1,i2,t1,t2,a2,a3⟩ hm (λe=>by rw[e]at a1;simp at a1) a4 a5 a6 a7 a8 a9 a10 hl hs
end
structure KRep (K:PySem.W.Frag) (d:D) (u:Value):Prop where
 ex:∃v,RelV v u/\∀J H,Rep K J H d v
inductive KReps (K:PySem.W.Frag):List D->List Value->Prop
 | nil:KReps K [] []
 | cons {d:D}{u:Value}{ds:List D}{us:List Value}(h:KRep K d u) (t:KReps K ds us):KReps K (d::ds) (u::us)
section
variable {K:PySem.W.Frag}
theorem zG9{i:Int}:KRep K (.int i) (.int i t):=⟨.int i,⟨t,rfl⟩,λ_ _=>rfl⟩
theorem zDl :KRep K (.str x) (.str x t):=⟨.str x,⟨t,rfl⟩,λ_ _=>rfl⟩
theorem KReps.vals:∀{ds:List D}{us:List Value},KReps K ds us->∃xs,Vals xs us/\∀J H,RepL K J H ds xs
 | _,_,.nil=>⟨[],.nil,λ_ _=>rfl⟩
 | _,_,.cons h t=>by
  obtain⟨v,r,hv⟩:=h.ex;obtain⟨xs,rs,hx⟩:=t.vals;exact⟨v::xs,.cons r rs,λJ H=>⟨v,xs,rfl,hv J H,hx J H⟩⟩
theorem zRd{its:Array Value}{n:Nat}(l:K.lookup a=some ⟨.type "tuple",od,.seq its n,sl⟩)(hs:its.size<=sizeLine)(h:KReps K ds its.toList):KRep K (.ktup ds) (.ref a):=by obtain⟨xs,rs,hx⟩:=h.vals;exact⟨.ref a,rfl,λJ H=>⟨a,xs,rfl,⟨_,its,n,l,rfl,rfl,hs,rs⟩,hx J H⟩⟩
theorem de_k{X:Cx}(hg:Gl X x)(hm:X.mg x=some u)(h:KRep K d u)(hd:(x == ("__debug__":Str))=false:=by decide):DE X K E (.Name x pos) (DS.eC d):=by obtain⟨v,r,hv⟩:=h.ex;exact de_c (zQt hg hm r hd) hv
end
section
variable {X:Cx}{K:PySem.W.Frag}{E:XE}
theorem yA3(he:DE X K E e m)(hK:X.K=K:=by rfl):DE X K E (.Subscript e (.Slice none none (some (.UnaryOp .USub (.Constant (.int 1) t p3) p4)) p2) pos) (DS.eUn DS.revS m):=yAi he (yAf zM7 zT2) (λ_ _=>rfl) hK
theorem yCh{i:Int}(hg:Gl X x)(hm:X.mg x=some u)(h:KRep K (.int i) u)(hd:(x == ("__debug__":Str))=false):DE X K E (.Name x pos) (DS.eC (.int i)):=de_k hg hm h hd
theorem yCg(hg:Gl X x)(hm:X.mg x=some u)(h:KRep K (.ktup ds) u)(hd:(x == ("__debug__":Str))=false):DE X K E (.Name x pos) (DS.eC (.ktup ds)):=de_k hg hm h hd
end
section
variable {X:Cx}{K:PySem.W.Frag}{J:Js}{S:Store}{H:Hp}
open Classical
theorem zO7(I:Inv X pins σ H s)(ha:AbS X.K J S H)(r1:Rep X.K J H d1 x)(r2:Rep X.K J H d2 y)(rx:RelV x v)(ry:RelV y u)(e:DS.eqLO S d1 d2=some b):
  ∃(p q:Addr) (xs ys:List Str) (us vs:List Value),v=.ref p/\u=.ref q/\s.heap.IsList p us.toArray/\s.heap.IsList q vs.toArray/\Vals (xs.map V.str) us/\Vals (ys.map V.str) vs/\b=decide (xs=ys)/\(DS.lenL S d1 d2=true->xs.length=ys.length):=by
 unfold DS.eqLO at e;split at e
 ·rename_i l m e1 e2;split at e
  ·rename_i xs ys f1 f2;cases e;obtain rfl:=DS.zCp f1;obtain rfl:=DS.zCp f2;obtain⟨p,zs,rfl,hq,q⟩:=zFj ha r1 e1;obtain⟨p',zs',rfl,hq',q'⟩:=zFj ha r2 e2;obtain rfl:=zDh q;obtain rfl:=zDh q';obtain⟨us,rv,pl,_⟩:=I.list hq;obtain⟨vs,rv',pl',_⟩:=I.list hq';cases rx;cases ry;exact⟨p,p',xs,ys,us,vs,rfl,rfl,pl.isList,pl'.isList,rv,rv',rfl,λh=>by unfold DS.lenL at h;rw[e1,e2]at h;simpa using h⟩
  ·cases e
 ·cases e
theorem zSy{xs ys:List Str}{us vs:List Value}(rv:Vals (xs.map V.str) us)(rv':Vals (ys.map V.str) vs)(j:Nat)(h1:j<us.toArray.size)(h2:j<vs.toArray.size):SeqAt.EqAt A s us.toArray[j] vs.toArray[j] (decide (xs[j]?=ys[j]?)):=by
 have l1:=rv.length;have l2:=rv'.length;rw[xp]at l1 l2;have i1:j<xs.length:=by simp at h1;lia
 have i2:j<ys.length:=by simp at h2;lia
 obtain⟨w1,hw1,t1⟩:=rv.get (xo (show j<(xs.map V.str).length by simpa using i1));obtain⟨w2,hw2,t2⟩:=rv'.get (xo (show j<(ys.map V.str).length by simpa using i2));rw[show us.toArray[j]=w1 from xB ((xo (by simpa using h1)).symm.trans hw1),show vs.toArray[j]=w2 from xB ((xo (by simpa using h2)).symm.trans hw2),xo i1,xo i2];rw[List.getElem_map]at t1 t2;obtain⟨t,rfl⟩:=t1;obtain⟨t',rfl⟩:=t2;have q:=SeqAt.EqAt.str_str (A:=A) (s:=s) xs[j] t ys[j] t';rw[show(xs[j] == ys[j])=decide (some xs[j]=some ys[j]) by rw[vn];simp]at q;exact q
theorem all_eq{xs ys:List Str}{n:Nat}(h:xs.length=n)(h':ys.length=n):((List.range n).all λj=>decide (xs[j]?=ys[j]?))=decide (xs=ys):=by
 rw[vn,decide_eq_true_iff,ve];constructor
 ·intro h;refine uI λi=>?_
  by_cases hi:i<n
  ·exact uO (h i (List.mem_range.mpr hi))
  ·rw[x6 (by nofun),x6 (by nofun)]
 ·rintro rfl j _;simp
theorem zV8(hu:X.A.units+64<cLine)(hK:X.K=K:=by rfl):OpR X (compareOp .Eq) (r2Of K DS.eqLS):=by
 subst hK;intro pins s σ H x y v u Q I rx ry hq46;obtain⟨J,S,d1,d2,d,ha,r1,r2,e,k⟩:=hq46;unfold DS.eqLS at e;cases e0:DS.eqLO S d1 d2 with
 | none=>rw[e0]at e;cases e
 | some b=>
  rw[e0]at e;cases e;obtain⟨p,q,xs,ys,us,vs,rfl,rfl,h1,h2,rv,rv',rfl,_⟩:=zO7 I ha r1 r2 rx ry e0;have l1:=rv.length;have l2:=rv'.length;rw[xp]at l1 l2;by_cases hl:xs.length=ys.length
  ·have hA:=SeqAt.RcAt.lists (A:=X.A) (e:=λj=>decide (xs[j]?=ys[j]?)) h1 h2 (by simp;lia) (by nofun) (λj a b=>zSy rv rv' j a b);rw[all_eq (by simp;lia) (by simp;lia)]at hA;exact hA _ _ _ _ ⟨.bl _,H,I,rfl,k _ H ha .refl rfl⟩
  ·have hA:=SeqAt.RcAt.lists_lengths (A:=X.A) h1 h2 (by simp;lia) (by nofun);rw[xi (λe:xs=ys=>hl (by rw[e]))]at k;exact hA _ _ _ _ ⟨.bl _,H,I,rfl,k _ H ha .refl rfl⟩
theorem zV1(hu:X.A.units+64<cLine)(hK:X.K=K:=by rfl):OpR X (compareOp .NotEq) (r2Of K DS.neLS):=by
 subst hK;intro pins s σ H x y v u Q I rx ry hq47;obtain⟨J,S,d1,d2,d,ha,r1,r2,e,k⟩:=hq47;unfold DS.neLS at e;split at e
 ·rename_i hz;cases e0:DS.eqLO S d1 d2 with
  | none=>rw[e0]at e;cases e
  | some b=>
   rw[e0]at e;cases e;obtain⟨p,q,xs,ys,us,vs,rfl,rfl,h1,h2,rv,rv',rfl,hl⟩:=zO7 I ha r1 r2 rx ry e0;have l1:=rv.length;have l2:=rv'.length;rw[xp]at l1 l2;have hl:=hl hz;refine SeqAt.RcNeAt.lists (e:=λj=>decide (xs[j]?=ys[j]?)) h1 h2 (by simp;lia) (by nofun) (λj a b=>zSy rv rv' j a b) _ _ _ _ ⟨.bl _,H,I,rfl,?_⟩;rw[all_eq (by simp;lia) (by simp;lia)];exact k _ H ha .refl rfl
 ·cases e
end
end L2
namespace Law
open PySem PySem.Spec PyProof.Rows L2
noncomputable abbrev n_0:List Str:=["text","figures","digits"]
noncomputable abbrev n_1:List Str:=["text","many","figures","words"]
noncomputable abbrev n_2:List Str:=["_law_feed_here","_law_many","_law_letters","_law_core","_law_at","_law_turn","_law_found","_law_k","_law_spare"]
noncomputable abbrev n_3:List Str:=["_law_k","_law_letters","_law_feed_here"]
noncomputable abbrev n_4:List Str:=["_law_feed_here","_law_a","_law_b","_law_c","_law_d"]
noncomputable abbrev n_5:List Str:=["_law_rule_here","_law_word","_law_head"]
noncomputable abbrev n_6:List Str:=["_law_feed_here","_law_rule_here","_law_x","_law_y","_law_many","_law_parts_here"]
noncomputable abbrev n_7:List Str:=["_law_script","_law_some","_law_k","_law_feed_here","_law_names_here","_law_room","_law_rule_here"]
noncomputable abbrev n_8:List Str:=["number","piece","behind"]
noncomputable abbrev n_9:List Str:=["head","parts","due"]
noncomputable abbrev n_10:List Str:=["_law_script","_law_k","_law_cell_here","_law_own"]
noncomputable abbrev n_11:List Str:=["_law_feed_here","_law_many","_law_digit","_law_one"]
noncomputable abbrev n_12:List Str:=["_law_found","_law_due","_law_left","_law_one","_law_other"]
noncomputable abbrev n_13:List Str:=["text","many","figures"]
noncomputable abbrev n_14:List Str:=["rule","between","part"]
noncomputable abbrev n_15:List Str:=["pieces","at","heads","parts"]
noncomputable abbrev n_16:List Str:=["pieces","at","heads","parts","rule"]
noncomputable abbrev n_17:List Str:=["_law_feed_here","_law_room","_law_deep","_law_thens","_law_names_here"]
noncomputable abbrev n_18:List Str:=["_law_feed_here","_law_room","_law_deep","_law_thens","_law_names_here","_law_many","_law_found","_law_left","_law_k","_law_size"]
noncomputable abbrev n_19:List Str:=["_law_feed_here","_law_room","_law_deep","_law_thens","_law_names_here","_law_form","_law_by","_law_size","_law_one","_law_parts_here"]
noncomputable abbrev n_20:List Str:=["pieces","at","word","numbers"]
noncomputable abbrev n_21:List Str:=["text","pieces","heads","parts","at","head","leaf"]
noncomputable abbrev n_22:List Str:=["rule","pieces","waiting","here"]
noncomputable abbrev n_23:List Str:=["_law_rule_here","_law_is_great","_law_text_here","_law_found"]
noncomputable def top (i:Nat):Stmt:=PySem.Challenge.pw_healfloor_k22_rules_written_and_read.main.body.getD i (.Pass ⟨0,0,0,0⟩)
noncomputable def topc (i j:Nat):Stmt:=match top i with
 | .ClassDef _ _ _ b _ _ _ _ _ _ _=>b.getD j (.Pass ⟨0,0,0,0⟩)
 | _=>.Pass ⟨0,0,0,0⟩
noncomputable abbrev kD (P:Params) (l:List (Str × Tok × Value)):Array DictEntry:=(l.map λx=>⟨PyData.keyHash P x.1,.str x.1 x.2.1,x.2.2⟩).toArray
noncomputable abbrev mA_:Value:=(.str "law_healfloor_k22_rules_written_and_read" 394)
noncomputable abbrev mB_:Value:=(.str "healfloor.words" 251)
noncomputable abbrev mC_:Value:=(.str "healfloor.cells" 187)
noncomputable abbrev mD_:Value:=(.str "healfloor.rules" 241)
noncomputable abbrev mE_:Value:=(.str "healfloor.reading" 323)
noncomputable abbrev mF_:Value:=(.str "healfloor.writing" 294)
noncomputable abbrev cO (x f:Str) (t:Tok) (l n c:Int) (a:Addr) (g:Int) (v:List Value) (k:Int) (u:Tok):Obj:=⟨.type "code",none,.fields (([.str x t,.str x (t+1),.str f (t+2),.int l 0,.int n 0,.int 0 0,.int 0 0,.int c 0,.ref a,.bool true,.int g 0]:List Value)++v++([.int k 0,.int l 0,.str f u]:List Value)).toArray,#[]⟩
noncomputable abbrev mI_:Value:=(.str "healfloor.errors" 196)
noncomputable def KF (P:Params):PySem.W.Frag:=[
 (3,⟨(.type "dict"),none,(.dict (kD P (List.append [("__name__",165,(.str "law_healfloor_k22_rules_written_and_read" 394)),("__doc__",166,.none),("__package__",167,.none),("__loader__",168,(.builtin "__main__.__loader__#opaque")),("__spec__",169,.none),("__annotations__",170,(.ref 6)),("__builtins__",171,(.ref 4)),("__file__",173,(.str "/claim/cut.py" 172)),("__cached__",174,.none),("stretch_of",195,(.ref 21)),("FloorError",215,(.ref 31)),("NoText",240,(.ref 51)),("parts_of",250,(.ref 60)),("BRACKET_WORDS",258,(.ref 61)),("MOST_LETTERS",260,(.int (8) 259)),("is_name",266,(.ref 66)),("is_number",272,(.ref 71)),("read_numbers",278,(.ref 76)),("show_numbers",284,(.ref 81)),("show_number",293,(.ref 88)),("show_rule",305,(.ref 95))] [("front_of",313,(.ref 102)),("behind_front",322,(.ref 109)),("MOST_FIGURES",326,(.int (4) 325)),("MOST_LEAST_FIGURES",328,(.int (2) 327)),("read_rule",336,(.ref 116)),("rule_in",349,(.ref 123)),("pieces_of",355,(.ref 128)),("head_at",365,(.ref 135)),("leaf_in",373,(.ref 142)),("behind_part",384,(.ref 149)),("closed",393,(.ref 156)),("_law_feed",405,(.ref 163)),("_law_take",415,(.ref 170)),("_law_names",421,(.ref 175)),("_law_cell",429,(.ref 182)),("_law_table",435,(.ref 187)),("_law_parts",451,(.ref 194)),("_law_rule",467,(.ref 201)),("_law_text",473,(.ref 206)),("_law_alike",484,(.ref 213)),("_law_great",490,(.ref 218)),("_law_right",500,(.ref 225)),("law",506,(.ref 230))])) 44),#[]⟩),
 (20,cO "stretch_of" "/claim/cut.py" 189 2 1 3 15 181 [.ref 16,.none,.ref 17,.ref 18,.ref 19] 193 194),
 (21,fO "stretch_of" (top 1) mC_ 20),
 (59,cO "parts_of" "/claim/cut.py" 243 12 1 3 54 181 [.ref 55,.none,.ref 56,.ref 57,.ref 58] 248 249),
 (60,fO "parts_of" (top 6) mD_ 59),
 (65,cO "is_name" "/claim/cut.py" 261 22 1 3 62 181 [.ref 63,.none,.none,.none,.ref 64] 264 265),
 (66,fO "is_name" (top 10) mB_ 65),
 (70,cO "is_number" "/claim/cut.py" 267 26 2 3 67 181 [.ref 68,.none,.none,.none,.ref 69] 270 271),
 (71,fO "is_number" (top 11) mB_ 70),
 (75,cO "read_numbers" "/claim/cut.py" 273 33 3 3 72 181 [.ref 73,.none,.none,.none,.ref 74] 276 277),
 (76,fO "read_numbers" (top 12) mB_ 75),
 (80,cO "show_numbers" "/claim/cut.py" 279 38 1 3 77 181 [.ref 78,.none,.none,.none,.ref 79] 282 283),
 (81,fO "show_numbers" (top 13) mB_ 80),
 (87,cO "show_number" "/claim/cut.py" 285 40 1 3 82 181 [.ref 83,.none,.ref 84,.ref 85,.ref 86] 291 292),
 (88,fO "show_number" (top 14) mB_ 87),
 (94,cO "show_rule" "/claim/cut.py" 296 50 1 3 89 181 [.ref 90,.none,.ref 91,.ref 92,.ref 93] 303 304),
 (95,fO "show_rule" (top 16) mF_ 94),
 (101,cO "front_of" "/claim/cut.py" 306 61 1 3 96 181 [.ref 97,.none,.ref 98,.ref 99,.ref 100] 311 312),
 (102,fO "front_of" (top 17) mF_ 101),
 (108,cO "behind_front" "/claim/cut.py" 314 74 1 3 103 181 [.ref 104,.none,.ref 105,.ref 106,.ref 107] 320 321),
 (109,fO "behind_front" (top 18) mF_ 108),
 (115,cO "read_rule" "/claim/cut.py" 329 82 1 3 110 181 [.ref 111,.none,.ref 112,.ref 113,.ref 114] 334 335),
 (116,fO "read_rule" (top 22) mE_ 115),
 (122,cO "rule_in" "/claim/cut.py" 337 87 1 3 117 181 [.ref 118,.none,.ref 119,.ref 120,.ref 121] 347 348),
 (123,fO "rule_in" (top 23) mE_ 122),
 (127,cO "pieces_of" "/claim/cut.py" 350 109 1 3 124 181 [.ref 125,.none,.none,.none,.ref 126] 353 354),
 (128,fO "pieces_of" (top 24) mE_ 127),
 (134,cO "head_at" "/claim/cut.py" 356 115 2 3 129 181 [.ref 130,.none,.ref 131,.ref 132,.ref 133] 363 364),
 (135,fO "head_at" (top 25) mE_ 134),
 (141,cO "leaf_in" "/claim/cut.py" 366 129 1 3 136 181 [.ref 137,.none,.ref 138,.ref 139,.ref 140] 371 372),
 (142,fO "leaf_in" (top 26) mE_ 141),
 (148,cO "behind_part" "/claim/cut.py" 374 134 4 3 143 181 [.ref 144,.none,.ref 145,.ref 146,.ref 147] 382 383),
 (149,fO "behind_part" (top 27) mE_ 148),
 (155,cO "closed" "/claim/cut.py" 385 146 2 3 150 181 [.ref 151,.none,.ref 152,.ref 153,.ref 154] 391 392),
 (156,fO "closed" (top 28) mE_ 155),
 (162,cO "_law_feed" "/claim/cut.py" 396 154 2 3 157 181 [.ref 158,.none,.ref 159,.ref 160,.ref 161] 403 404),
 (163,fO "_law_feed" (top 30) mA_ 162),
 (169,cO "_law_take" "/claim/cut.py" 406 164 2 3 164 181 [.ref 165,.none,.ref 166,.ref 167,.ref 168] 413 414),
 (170,fO "_law_take" (top 31) mA_ 169),
 (174,cO "_law_names" "/claim/cut.py" 416 172 2 3 171 181 [.ref 172,.none,.none,.none,.ref 173] 419 420),
 (175,fO "_law_names" (top 32) mA_ 174),
 (181,cO "_law_cell" "/claim/cut.py" 422 187 1 3 176 181 [.ref 177,.none,.ref 178,.ref 179,.ref 180] 427 428),
 (182,fO "_law_cell" (top 33) mA_ 181),
 (186,cO "_law_table" "/claim/cut.py" 430 190 1 3 183 181 [.ref 184,.none,.none,.none,.ref 185] 433 434),
 (187,fO "_law_table" (top 34) mA_ 186),
 (193,cO "_law_parts" "/claim/cut.py" 436 195 5 3 188 181 [.ref 189,.none,.ref 190,.ref 191,.ref 192] 449 450),
 (194,fO "_law_parts" (top 35) mA_ 193),
 (200,cO "_law_rule" "/claim/cut.py" 452 204 5 3 195 181 [.ref 196,.none,.ref 197,.ref 198,.ref 199] 465 466),
 (201,fO "_law_rule" (top 36) mA_ 200),
 (205,cO "_law_text" "/claim/cut.py" 468 223 1 3 202 181 [.ref 203,.none,.none,.none,.ref 204] 471 472),
 (206,fO "_law_text" (top 37) mA_ 205),
 (212,cO "_law_alike" "/claim/cut.py" 474 237 2 3 207 181 [.ref 208,.none,.ref 209,.ref 210,.ref 211] 482 483),
 (213,fO "_law_alike" (top 38) mA_ 212),
 (217,cO "_law_great" "/claim/cut.py" 485 252 2 3 214 181 [.ref 215,.none,.none,.none,.ref 216] 488 489),
 (218,fO "_law_great" (top 39) mA_ 217),
 (224,cO "_law_right" "/claim/cut.py" 491 257 2 3 219 181 [.ref 220,.none,.ref 221,.ref 222,.ref 223] 498 499),
 (225,fO "_law_right" (top 40) mA_ 224),
 (229,cO "law" "/claim/cut.py" 501 263 1 3 226 181 [.ref 227,.none,.none,.none,.ref 228] 504 505),
 (230,fO "law" (top 41) mA_ 229),
 (4,⟨(.type "module"),(some 0),.plain,#[]⟩),
 (31,⟨(.type "type"),none,(.cls { name:="FloorError",bases:=[(.type "ValueError")],mro:=[(.ref 31),(.type "ValueError"),(.type "Exception"),(.type "BaseException"),(.type "object")],ns:=30,qualname:="FloorError",hasDict:=true,slotNames:=[],subclasses:=[(.ref 51)],abstract:=false }),#[some (.ref 22),none,some (.str "FloorError" 198),some (.str "FloorError" 206),some (.builtin "ValueError.__new__"),some (.bool true)]⟩),
 (30,⟨(.type "dict"),none,(.dict (kD P [("__module__",205,(.str "healfloor.errors" 196)),("__firstlineno__",209,(.int (5) 208)),("__static_attributes__",210,(.ref 29)),("__weakref__",212,(.ref 32)),("__doc__",213,.none)]) 3),#[]⟩),
 (51,⟨(.type "type"),none,(.cls { name:="NoText",bases:=[(.ref 31)],mro:=[(.ref 51),(.ref 31),(.type "ValueError"),(.type "Exception"),(.type "BaseException"),(.type "object")],ns:=50,qualname:="NoText",hasDict:=true,slotNames:=[],subclasses:=[],abstract:=false }),#[some (.ref 35),none,some (.str "NoText" 216),some (.str "NoText" 224),some (.builtin "ValueError.__new__"),some (.bool true)]⟩),
 (50,⟨(.type "dict"),none,(.dict (kD P [("__module__",223,(.str "healfloor.errors" 196)),("__firstlineno__",227,(.int (7) 226)),("__init__",235,(.ref 48)),("__static_attributes__",237,(.ref 49)),("__doc__",238,.none)]) 2),#[]⟩),
 (48,iO "NoText.__init__" (topc 4 0) mI_ 47),
 (47,⟨(.type "code"),none,(.fields #[(.str "__init__" 228),(.str "NoText.__init__" 229),(.str "/claim/cut.py" 230),(.int (9) 0),(.int (2) 0),(.int (0) 0),(.int (0) 0),(.int (3) 0),(.ref 42),(.bool true),(.int (181) 0),(.ref 43),.none,(.ref 44),(.ref 45),(.ref 46),(.int (233) 0),(.int (9) 0),(.str "/claim/cut.py" 234)]),#[]⟩),
 (61,⟨(.type "tuple"),none,(.seq #[(.str "all" 253),(.str "any" 254),(.str "at" 255),(.str "by" 256),(.str "then" 257)] 0),#[]⟩)]
noncomputable abbrev tb:List (Addr × Addr):=[]
noncomputable def KT (P:Params):PySem.W.Frag:=KF P++tabK tb
noncomputable def view:Program:={ PySem.Challenge.pw_healfloor_k22_rules_written_and_read with main:={ PySem.Challenge.pw_healfloor_k22_rules_written_and_read.main with body:=[1,3,4,6,8,9,10,11,12,13,14,16,17,18,20,21,22,23,24,25,26,27,28,30,31,32,33,34,35,36,37,38,39,40,41].map top } }
noncomputable abbrev hk:PySem.W.Hook:=PySem.W.kHook KT [3,20,21,59,60,65,66,70,71,75,76,80,81,87,88,94,95,101,102,108,109,115,116,122,123,127,128,134,135,141,142,148,149,155,156,162,163,169,170,174,175,181,182,186,187,193,194,200,201,205,206,212,213,217,218,224,225,229,230,4,31,30,51,50,48,47,61] (λ_=>by kernel_rfl)
theorem left:PySem.W.LeftO PySem.Challenge.pw_healfloor_k22_rules_written_and_read view [] (λs=>PySem.W.xlAt view [] s && PySem.W.recOk [] s) (PySem.W.Hook.obs hk) (PySem.W.Hook.val hk) 2936:=λw=>by kernel_rfl
noncomputable abbrev CC (x:Str) (k:Nat) (ps:List Str) (F:DS.Fn):Prop:=∀{w:World}{mg:Str->Option Value}{base:Heap},Gd (KF w.params) mg->Cal PySem.Challenge.pw_healfloor_k22_rules_written_and_read w (KF w.params) mg base x k ps (spOf (KF w.params) XE0 F)
noncomputable abbrev CE (x:Str) (k:Nat) (ps:List Str) (F:DS.Fn):Prop:=∀{w:World}{mg:Str->Option Value}{base:Heap},Gd (KF w.params) mg->CalX PySem.Challenge.pw_healfloor_k22_rules_written_and_read w (KF w.params) mg base x k ps F
theorem zRj{w:World}{mg:Str->Option Value}:IniX PySem.Challenge.pw_healfloor_k22_rules_written_and_read w (KF w.params) mg base 51 "row":=by
 apply yBz 48 47 51 "NoText.__init__" (topc 4 0) mI_ "self" "row"
 all_goals (first|kernel_rfl!|(intro _ _ _ _ _ _ us hl;obtain⟨_,_,rfl⟩:=len2 hl;rfl))
theorem zEl{mg:Str->Option Value}(G:Gd (KF P) mg):mg "BRACKET_WORDS"=some (.ref 61):=G.a _ _ (by kernel_rfl)
theorem zEk :KRep (KF P) (.ktup [(.str (PySem.Str.ofString "all")),(.str (PySem.Str.ofString "any")),(.str (PySem.Str.ofString "at")),(.str (PySem.Str.ofString "by")),(.str (PySem.Str.ofString "then"))]) (.ref 61):=(zRd (od:=none) (its:=#[(.str "all" 253),(.str "any" 254),(.str "at" 255),(.str "by" 256),(.str "then" 257)]) (n:=0) (sl:=#[]) (by kernel_rfl) (show 5<=sizeLine by decide) (.cons zDl (.cons zDl (.cons zDl (.cons zDl (.cons zDl .nil))))))
theorem zF2{mg:Str->Option Value}(G:Gd (KF P) mg):mg "MOST_FIGURES"=some (.int (4) 325):=G.a _ _ (by kernel_rfl)
theorem zF0 :KRep (KF P) (.int 4) (.int (4) 325):=zG9
theorem zD8{mg:Str->Option Value}(G:Gd (KF P) mg):mg "MOST_LEAST_FIGURES"=some (.int (2) 327):=G.a _ _ (by kernel_rfl)
theorem zD7 :KRep (KF P) (.int 2) (.int (2) 327):=zG9
theorem zF1{mg:Str->Option Value}(G:Gd (KF P) mg):mg "MOST_LETTERS"=some (.int (8) 259):=G.a _ _ (by kernel_rfl)
theorem zEz :KRep (KF P) (.int 8) (.int (8) 259):=zG9
set_option hygiene false in
local macro_rules | `(tactic| ac_rfl) => `(tactic| first | kernel_rfl | (intro _ _ _ _ _ _ us hl; first | (obtain ⟨_, rfl⟩ := len1 hl; rfl) | (obtain ⟨_, _, rfl⟩ := len2 hl; rfl) | (obtain ⟨_, _, _, rfl⟩ := len3 hl; rfl) | (obtain ⟨_, _, _, _, rfl⟩ := len4 hl; rfl) | (obtain ⟨_, _, _, _, _, rfl⟩ := len5 hl; rfl)) | ((first | intro q f c cl A outer s H hr | intro cdv A outer s H E hr | intro A outer s H E hr); (first | exact zWn | apply zEq | refine zKa ?_ ?_ | refine dss_consB ?_ ?_ | refine zGj (zOc ?_) | refine zGj (zT0 ?_ ?_ ?_) | refine zGj ?_ | skip); repeat' (first
 | with_reducible (show DE _ _ _ _ _;first|apply yA0|apply zT2|apply yAg|apply yAh|apply yCj|apply yCh|apply yCg|apply yCm|(apply zRy;(case' ho=>(first|apply zH6));(case' ho'=>(first|apply zH6)))|apply yCc|apply yAj|apply zWg|apply yAk|apply yAo|apply yAl|apply yCa|apply yAp|apply yA3|(apply yCd;first|apply zUz|apply zIg|apply zVc|apply zV0|apply zR0|apply zV6|apply zV4|apply zV3)|(apply yAn;first|apply zSk|apply zSi|apply zN7|apply zSl)|(apply yAf;first|apply zM7)|(apply yCi;first|apply ix_D)|(apply yCb;first|apply sl_D|apply sl_S)|(apply yC5;first|apply zLv|apply zLy|apply zP5|apply zLu|apply zP9|apply zLt)|(apply yC4;first|apply zHk|apply zLw|apply zP2|apply zP7)|(apply zO9;exact zH1;apply zNd)|(apply zO9;exact s_split;apply zNe)|(apply zO9;exact zXq;apply zR8)|(apply yA4;exact s_pop;apply zVi)|(apply zO9;exact zQ6;apply zL6)|(apply zO9;exact zQ5;apply zL5)|apply yCe)
 | with_reducible (show DA _ _ _ _ _;first|apply zWu|apply yAq)
 | with_reducible (show DT _ _ _ _ _;first|apply yA7|(apply zRu;(case' ho=>(first|apply zH6));(case' ho'=>(first|apply zH6)))|apply yA6|(apply yA8;first|apply zN7|apply zSk|apply zSi|apply zV7|apply zZ0|apply zYx|apply zV8|apply zYy|apply zL2|apply zV1|apply zSl|apply zH6|apply zYz)|apply yA5|apply dt_w)
 | with_reducible (show DW _ _ _ _ _;first|apply yC3|apply zZy|apply zZz|apply zWd)
 | with_reducible (show DF _ _ _ _ _;first|apply zWf|apply yAd|apply zLp|apply zLo)
 | with_reducible (show DG _ _ _ _;first|apply zWe|apply yAc)
 | with_reducible (show DGs _ _ _ _;first|apply zRx|apply zWq)
 | with_reducible (show DIf _ _ _ _ _;first|apply zWp|apply zWo)
 | with_reducible (show DI _ _ _ _ _ _;first|apply yAb|apply zOe)
 | with_reducible (show DS1 _ _ _ _ _;first|(apply zRt G)|apply zOc|apply zT0|apply zOa|apply zRv|apply zWl|apply zWk|(apply zRs;kernel_rfl!)|(apply yA1;kernel_rfl!)|apply yA2|(apply zWj;first|apply yB4))
 | with_reducible (show DSs _ _ _ _ _;first|apply zEq|apply zKa|apply zGj|apply zWm)
 | with_reducible (show DO _ _ _ _ _;first|apply yA9|apply yC7)
 | exact G.z _ (by kernel_rfl)
 | exact zEl G
 | exact zEk
 | exact zF2 G
 | exact zF0
 | exact zD8 G
 | exact zD7
 | exact zF1 G
 | exact zEz
 | kernel_rfl
 | exact PassesOwn.never
 | exact PassesOwn.leaving
 | exact zG6 (by kernel_rfl)
 | exact hr.units
 | exact yC0 hr
 | exact hr.units0
 | exact hr.mono (by decide)
 | exact hr.mono (by nofun)
 | exact ih G
 | exact zJ3 G
 | exact zGp G
 | exact zHq G
 | exact zM0 G
 | exact zPc G
 | exact zJ2 G
 | exact zJ1 G
 | exact zS3 G
 | exact zJ6 G
 | exact zJ4 G
 | exact zHw G
 | exact zF5 G
 | exact zF6 G
 | exact zGq G
 | exact zHu G
 | exact zJ7 G
 | exact zHr G
 | exact zHt _ ih G
 | exact zJ5 G
 | exact zHv G
 | exact zPd G
 | exact zPb G
 | exact zF4 G
 | exact zPa G
 | exact zM1 G
 | exact zEu G
 | exact(zEu G).cal
 | exact zJ0 G
 | exact zHs G
 | exact G
 | with_reducible (show DX _ _ _ _;first|apply zZx|apply zZw|apply yC2)
 | exact zRj
 | exact G
 | with_reducible (show DSsB _ _ _ _ _;first|apply zEq|apply dss_consB|apply dss_oneB)
 | with_reducible (show DS1B _ _ _ _ _;first|apply dv_setB|apply dst_retB|apply dst_ifB)
 | with_reducible (show DEB _ _ _ _ _;first|apply deb_and|(apply deb_cmp;first|apply zV9)|apply dv_compB|apply deb_if|apply deb_call)
 | with_reducible (show DTB _ _ _ _ _;first|apply dtb_tru)
 | with_reducible (show DIB _ _ _ _ _ _;apply dv_rngB G)
 | exact .suite (hr.mono (by decide))
 | exact .inl rfl
 | exact .inr rfl
 | exact .inr (.inl rfl)
 | exact .inr (.inr rfl)
 | decide
 | exact nomark _
 | with_unfolding_all rfl
 | intro _ _ _ _ _
 | intro _ _
 | exact⟨rfl,rfl⟩)))
theorem zEr:∀n:Nat,CC "_law_text" (1*n+1) ["_law_rule_here"] (DP.zB5 n)
 | 0=>λG=>by apply zBc G 206 205 (top 37) mA_ n_5;all_goals ac_rfl
 | n+1=>λG=>by have ih:=@zEr n;apply zBc G 206 205 (top 37) mA_ n_5;all_goals ac_rfl
theorem zJ3:CC "_law_text" 13 ["_law_rule_here"] DP.zDc:=zEr 12
theorem zDp:∀n:Nat,CC "show_number" (1*n+1) ["number"] (DP.zAz n)
 | 0=>λG=>by apply zBc G 88 87 (top 14) mB_ n_8;all_goals ac_rfl
 | n+1=>λG=>by have ih:=@zDp n;apply zBc G 88 87 (top 14) mB_ n_8;all_goals ac_rfl
theorem zGp:CC "show_number" 3 ["number"] DP.zBp:=zDp 2
theorem zHq:CC "stretch_of" 1 ["table"] DP.zC4:=λG=>by apply zBc G 21 20 (top 1) mC_ ["table"];all_goals ac_rfl
theorem zM0:CC "parts_of" 1 ["rule"] DP.zBt:=λG=>by apply zBc G 60 59 (top 6) mD_ ["rule","form"];all_goals ac_rfl
theorem zPc:CC "is_name" 1 ["text"] DP.zEp:=λG=>by apply zBc G 66 65 (top 10) mB_ ["text"];all_goals ac_rfl
theorem zJ2:CC "is_number" 1 ["text","figures"] DP.zB7:=λG=>by apply zBc G 71 70 (top 11) mB_ n_0;all_goals ac_rfl
theorem zJ1:CC "pieces_of" 1 ["text"] DP.zBl:=λG=>by apply zBc G 128 127 (top 24) mE_ ["text","sign"];all_goals ac_rfl
theorem zS3:CC "closed" 1 ["head","parts"] DP.zDo:=λG=>by apply zBc G 156 155 (top 28) mE_ n_9;all_goals ac_rfl
theorem zJ6:CC "_law_feed" 1 ["_law_script","_law_k"] DP.zCh:=λG=>by apply yCp G 163 162 (top 30) mA_ n_10;all_goals ac_rfl
theorem zJ4:CC "_law_take" 1 ["_law_feed_here","_law_many"] DP.zA2:=λG=>by apply zBc G 170 169 (top 31) mA_ n_11;all_goals ac_rfl
theorem zHw:CC "_law_alike" 1 ["_law_found","_law_due"] DP.zAs:=λG=>by apply zBc G 213 212 (top 38) mA_ n_12;all_goals ac_rfl
theorem zF5:CC "read_numbers" 2 n_13 DP.zAn:=λG=>by apply zBc G 76 75 (top 12) mB_ n_1;all_goals ac_rfl
theorem zF6:CC "behind_front" 2 ["rule"] DP.zAx:=λG=>by apply zBc G 109 108 (top 18) mF_ n_14;all_goals ac_rfl
theorem zGq:CC "behind_part" 2 n_15 DP.zBf:=λG=>by apply zBc G 149 148 (top 27) mE_ n_16;all_goals ac_rfl
theorem zHu:CC "_law_names" 2 ["_law_feed_here","_law_many"] DP.zC7:=λG=>by apply zBc G 175 174 (top 32) mA_ n_2;all_goals ac_rfl
theorem zJ7:CC "_law_cell" 2 ["_law_feed_here"] DP.zBz:=λG=>by apply zBc G 182 181 (top 33) mA_ ["_law_feed_here","_law_far"];all_goals ac_rfl
theorem zHr:CC "_law_table" 2 ["_law_feed_here"] DP.zCv:=λG=>by apply zBc G 187 186 (top 34) mA_ n_4;all_goals ac_rfl
theorem zHt(n:Nat)(ih:CC "_law_rule" (2*n+3) n_17 r):CC "_law_parts" (2*n+4) n_17 (DP.zC6 r):=λG=>by apply zBc G 194 193 (top 35) mA_ n_18;all_goals ac_rfl
theorem zEs:∀n:Nat,CC "_law_rule" (2*n+3) n_17 (DP.zB6 n)
 | 0=>λG=>by apply zBc G 201 200 (top 36) mA_ n_19;all_goals ac_rfl
 | n+1=>λG=>by have ih:=@zEs n;apply zBc G 201 200 (top 36) mA_ n_19;all_goals ac_rfl
theorem zJ5:CC "_law_rule" 25 n_17 DP.zAy:=zEs 11
theorem zHv:CC "_law_great" 2 ["_law_feed_here","_law_rule_here"] DP.zBa:=λG=>by apply zBc G 218 217 (top 39) mA_ n_6;all_goals ac_rfl
theorem zPd:CC "head_at" 3 ["pieces","at"] DP.zCu:=λG=>by apply zBc G 135 134 (top 25) mE_ n_20;all_goals ac_rfl
theorem zPb:CC "leaf_in" 3 ["piece"] DP.zCt:=λG=>by apply zBc G 142 141 (top 26) mE_ ["piece","numbers"];all_goals ac_rfl
theorem zF4:CC "show_numbers" 4 ["numbers"] DP.zAj:=λG=>by apply zBc G 81 80 (top 13) mB_ ["numbers"];all_goals ac_rfl
theorem zPa:CC "rule_in" 4 ["text"] DP.zDn:=λG=>by apply zBc G 123 122 (top 23) mE_ n_21;all_goals ac_rfl
theorem zM1:CC "front_of" 5 ["rule"] DP.zD3:=λG=>by apply zBc G 102 101 (top 17) mF_ ["rule","form"];all_goals ac_rfl
theorem zEu:CE "read_rule" 5 ["text"] DP.zCg:=λG=>by apply yCo G 116 115 (top 22) mE_ ["text","rule"];all_goals ac_rfl
theorem zJ0:CC "show_rule" 6 ["rule"] DP.zBk:=λG=>by apply zBc G 95 94 (top 16) mF_ n_22;all_goals ac_rfl
theorem zHs:CC "_law_right" 14 ["_law_rule_here","_law_is_great"] DP.zC5:=λG=>by apply zBc G 225 224 (top 40) mA_ n_23;all_goals ac_rfl
theorem yCw:CC "law" 26 ["_law_script"] DP.zLg:=λG=>by apply zBc G 230 229 (top 41) mA_ n_7;all_goals ac_rfl
theorem walk{l:PySem.W.OpenLaw}{q:Program}{loose:List Str}{XP:(Str->Option Value)->Heap->Prop}{YP:World->Heap->Prop}{d:DefRec}{K:Params->PySem.W.Frag}(hn:l.most=some 63)(hdf:d.params.defaults=[])
  (hY:∀(w:World) (h:Heap),YP w h->(K w.params).In h/\∀e∈tb,h.get? e.2=some (PySem.W.tabObj #[])) (hB:∀w:World,tabB (K w.params) tb=true)
  (F:∀(w:World) (mg:Str->Option Value) (fa:Addr) (h:Heap),(K w.params).In h->h.Ns mainGlobals mg->mg d.name=some (.ref fa)->
   ∃fd:FuncData,(∀(s:Shared) (u:Value),BindsTo s fd ⟨[u],[]⟩ [("_law_script",u)])/\∀base:Heap,(K w.params).In base->base.Ns mainGlobals mg->FnOk l.prog w (K w.params) mg base CX0 26 fa fd ["_law_script"] (spOf (K w.params) XE0 DP.zLg)):
  PySem.W.WalkO q loose XP YP l.row.toRowW d [] (λf vs=>PySem.call f vs):=
 L2.zPu (n:=63) (k:=26) (x:="_law_script") (Fn:=DP.zLg) hn (by decide) hdf ⟨rfl,by decide,by decide⟩ hY hB F DP.law_ok
noncomputable abbrev dl:DefRec:=⟨"law",zBo (top 41),zAu (top 41),zA6 (top 41),match top 41 with|.FunctionDef _ _ _ _ _ _ _ _ _ p=>p|_=>⟨0,0,0,0⟩⟩
theorem all_mk{w:World}{h:Heap}{mg:Str->Option Value}(X:(KF w.params).In h)(G:h.Ns mainGlobals mg)(hfa:mg "law"=some (.ref fa)):∃fd:FuncData,(∀(s:Shared) (v:Value),BindsTo s fd ⟨[v],[]⟩ [("_law_script",v)])/\∀base:Heap,(KF w.params).In base->base.Ns mainGlobals mg->FnOk PySem.Challenge.pw_healfloor_k22_rules_written_and_read w (KF w.params) mg base CX0 26 fa fd ["_law_script"] (spOf (KF w.params) XE0 DP.zLg):=by
 have D:Gd (KF w.params) mg:=⟨λx v e=>PySem.W.mg_of X G e,λx e=>PySem.W.mg_none_of X G e⟩;have F:=zK6 (K:=KF w.params) (f:=230) (cd:=229) (x:="law") (tq:=top 41) (pm:=mA_) (by kernel_rfl) (by kernel_rfl) (by kernel_rfl);have e:=hfa.symm.trans (D.a "law" (.ref 230) (by kernel_rfl));cases e;refine⟨_,λs v=>.of_eq rfl,λbase _ _=>fn_d F (zEj (N:=n_7) (by kernel_rfl)) rfl rfl (b:=DP.zWz) ?_⟩;have G:=D
 ac_rfl
end Law
open PySem PySem.W PyProof.Rows
set_option maxRecDepth 100000 in
theorem PySem.Challenge.cw_healfloor_k22_rules_written_and_read_holds : PySem.Challenge.rw_healfloor_k22_rules_written_and_read.Holds := by
 refine PySem.W.holds_law (by decide +kernel) fun said=>PySem.W.holds_open (r:=PySem.W.OpenLaw.row PySem.Challenge.rw_healfloor_k22_rules_written_and_read) (q:=Law.view) (loose:=[]) (Xt:=fun s=>xlAt Law.view [] s && recOk [] s) (XP:=XL Law.view []) (YP:=Hook.says Law.hk) (d:=Law.dl) (kwd:=[]) Law.left (Hook.of Law.hk) (Hook.keeps Law.hk) (fun s e=>xl_of s (Bool.and_eq_true_iff.mp e).1) XL.keeps (by kernel_rfl) (by kernel_rfl) (by kernel_rfl) (fun s e=>recFacts_of (Bool.and_eq_true_iff.mp e).2) (by kernel_rfl) said (by decide +kernel) ⟨by kernel_rfl,by kernel_rfl,by kernel_rfl,by kernel_rfl,by kernel_rfl,by decide +kernel⟩ ?hw ?hc
 case hw=>w_witness2
 case hc=>exact Law.walk (l:=PySem.Challenge.rw_healfloor_k22_rules_written_and_read) (K:=Law.KF) (by kernel_rfl) (by kernel_rfl) (fun w h Y=>L2.zVv (by kernel_rfl) (PySem.W.kIn_of Y)) (fun w=>by kernel_rfl) fun w mg fa h KX G hmg=>Law.all_mk KX G hmg
