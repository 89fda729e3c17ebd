import PyProof.Rows.All
import Wide.All
import OpenK.AllK
import PySem.Challenge.RW_liftwave_k32_reader_refuses
open Array(length_toList size_append toList_append)
open Bool(and_eq_true false_eq_true)
open Int(add_mul ediv_one emod_lt_of_pos emod_nonneg mul_assoc mul_left_comm natCast_mul neg_le_neg neg_neg toNat_natCast toNat_of_nonneg)
open List(all_cons all_eq_true any_eq_true append_assoc append_inj' append_nil cons_append dropLast_concat filterMap_cons flatten_cons foldl_cons forIn_cons forall_mem_append forall_mem_singleton getElem?_append_left getElem?_append_right getElem?_cons_succ getElem?_drop getElem?_eq_getElem getElem?_map getElem?_set_ne getElem?_set_self getLastD_concat length_append length_cons length_drop length_map length_nil length_replicate length_reverse length_set length_singleton length_take length_zip lookup_cons map_append map_cons map_drop map_id map_map map_nil map_replicate map_reverse mem_append mem_append_left mem_append_right mem_cons mem_cons_of_mem mem_cons_self mem_filterMap mem_of_getElem? mem_replicate mem_singleton nil_append nodup_append nodup_cons nodup_nil not_mem_nil of_mem_zip replicate_succ reverse_append set_cons_succ set_cons_zero size_toArray take_append_drop take_length take_of_length_le zip_cons_cons)
open Nat(le_of_lt le_succ le_trans lt_irrefl lt_of_lt_of_le min_eq_left min_self ne_of_gt ne_of_lt two_pow_pos zero_le)
open Option(getD_none map_some)
open PySem(boot_len)
open PySem.F(plainAttrs_list)
open PySem.Heap(get?_push_of_some get?_push_size get?_update_self lt_size size_push)
open PySem.W(Frag callWith_K codeIn emptyDict excIn exmOne fnOf handedIn instObj isFn keepIn kia_one kitOne kitx_dict kitx_list kitx_tuple lookIn makesIn methodCall_KW methodObj mg_none_of mg_of nsIn plainGet plainGet_of plainOver takerIn)
set_option Elab.async false
set_option compiler.extract_closed false
set_option bootstrap.genMatcherCode false
set_option linter.all false
set_option maxRecDepth 100000
set_option hygiene false
local macro_rules |`(tactic|kj_on)=>`(tactic| (intro X hP hw hK hc i pins s Y H E I hf st hg;subst hP hw hK))
set_option hygiene true
namespace L2
open PySem PySem.Spec PyProof.Rows
abbrev Key:=Sum Int Str
def keyIs:Key->Value->Bool
 | .inl k,v=>Value.isInt k v
 | .inr x,v=>Value.isStrOf x v
def keyH (w:World):Key->Int
 | .inl k=>hashInt k
 | .inr x=>hashStr w x
theorem keyIs_shape:∀{k:Key} {v:Value},keyIs k v=true->(∃i t,k=Sum.inl i/\v=Value.int i t)∨(∃x t,k=Sum.inr x/\v=Value.str x t)
 | .inl i,v,h=>by
  obtain⟨t,e⟩:=Value.isInt_shape (k:=i) (v:=v) h
  exact .inl ⟨i,t,rfl,e⟩
 | .inr x,v,h=>by
  obtain⟨t,e⟩:=Value.isStrOf_shape (x:=x) (v:=v) h
  exact .inr ⟨x,t,rfl,e⟩
theorem key_ll (a b:Int):decide ((Sum.inl a:Key)=Sum.inl b)=(a==b):=by
 by_cases e:a=b
 .subst e;simp
 .have h:¬ (Sum.inl a:Key)=Sum.inl b:=λq=>e (Sum.inl.inj q)
  rw[decide_eq_false h]
  exact (beq_eq_false_iff_ne.mpr e).symm
theorem key_rr (a b:Str):decide ((Sum.inr a:Key)=Sum.inr b)=decide (a=b):=by
 by_cases e:a=b
 .subst e;simp
 .have h:¬ (Sum.inr a:Key)=Sum.inr b:=λq=>e (Sum.inr.inj q)
  rw[decide_eq_false h,decide_eq_false e]
theorem key_lr (a:Int)(b:Str):decide ((Sum.inl a:Key)=Sum.inr b)=false:=decide_eq_false (λq=>nomatch q)
theorem key_rl (a:Str)(b:Int):decide ((Sum.inr a:Key)=Sum.inl b)=false:=decide_eq_false (λq=>nomatch q)
def mixKind (prog:Program)(w:World):PySem.KeyKind prog w Key where
 is:=keyIs
 hash:=keyH w
 inj := λv a b ha hb=>by
  rcases keyIs_shape ha with⟨i,t,rfl,rfl⟩ | ⟨x,t,rfl,rfl⟩
  .rcases keyIs_shape hb with⟨j,u,rfl,e⟩ | ⟨y,u,rfl,e⟩
   .injection e with e1 _;rw[e1]
   .exact nomatch e
  .rcases keyIs_shape hb with⟨j,u,rfl,e⟩ | ⟨y,u,rfl,e⟩
   .exact nomatch e
   .injection e with e1 _;rw[e1]
 byValue:=λk v h=>by
  rcases keyIs_shape h with⟨i,t,rfl,rfl⟩ | ⟨x,t,rfl,rfl⟩<;>rfl
 pyHash:=λhv h=>by
  rcases keyIs_shape hv with⟨i,t,rfl,rfl⟩ | ⟨x,t,rfl,rfl⟩
  .exact wpAny_pyHash_int h
  .exact wpAny_pyHash_str h
 eqBool:=λhu hv h=>by
  rcases keyIs_shape hu with⟨i,t,rfl,rfl⟩ | ⟨x,t,rfl,rfl⟩
  .rcases keyIs_shape hv with⟨j,u,rfl,rfl⟩ | ⟨y,u,rfl,rfl⟩
   .rw [key_ll]at h;exact wpAny_eqBool_int h
   .rw [key_lr]at h;exact SeqAt.EqAt.int_str i t y u _ _ _ _ h
  .rcases keyIs_shape hv with⟨j,u,rfl,rfl⟩ | ⟨y,u,rfl,rfl⟩
   .rw [key_rl]at h;exact SeqAt.EqAt.str_int x t j u _ _ _ _ h
   .rw [key_rr]at h;exact wpAny_eqBool_str h
 «strs»:=λk x t v h=>by
  rcases keyIs_shape h with⟨i,u,rfl,e⟩ | ⟨y,u,rfl,e⟩
  .exact nomatch e
  .injection e with e1 _
   subst e1
   cases v<;>rfl
inductive V where
 |non |bl (b:Bool) |int (i:Int) |str (x:Str) |byt (b:Array UInt8) |flt (b:UInt64) |ref (a:Addr) |ty (n:String)
 deriving DecidableEq
def RelV:V->Value->Prop
 | .non,u=>u=Value.none
 | .bl b,u=>u=Value.bool b
 | .int i,u=>∃t,u=Value.int i t
 | .str x,u=>∃t,u=Value.str x t
 | .byt b,u=>∃t,u=Value.bytes b t
 | .flt b,u=>∃t,u=Value.float b t
 | .ref a,u=>u=Value.ref a
 | .ty n,u=>u=Value.type n
abbrev Vals:List V->List Value->Prop:=Paired RelV
theorem Vals.length {xs:List V}{us:List Value}(r:Vals xs us):xs.length=us.length:=Paired.length r
theorem Vals.get:∀{xs:List V} {us:List Value} {i:Nat} {x:V},Vals xs us->xs[i]?=some x->∃u,us[i]?=some u/\RelV x u
 |_,_,_,_,.nil,e=>by simp at e
 |_,_,0,_,.cons r _,e=>by simp at e;subst e;exact⟨_,rfl,r⟩
 |_,_,i+1,x,.cons _ t,e=>by
  obtain⟨u,h1,h2⟩:=Vals.get (i:=i) (x:=x) t (by simpa using e)
  exact⟨u,by simpa using h1,h2⟩
theorem Vals.append:∀{xs ys:List V} {us ws:List Value},Vals xs us->Vals ys ws->Vals (xs++ys) (us++ws)
 |_,_,_,_,.nil,s=>s
 |_,_,_,_,.cons r t,s=>.cons r (Vals.append t s)
theorem Vals.take:∀{xs:List V} {us:List Value} (n:Nat),Vals xs us->Vals (xs.take n) (us.take n)
 |_,_,0,_=>.nil
 |_,_,_+1,.nil=>.nil
 |_,_,n+1,.cons r t=>.cons r (Vals.take n t)
theorem Vals.drop:∀{xs:List V} {us:List Value} (n:Nat),Vals xs us->Vals (xs.drop n) (us.drop n)
 |_,_,0,r=>r
 |_,_,_+1,.nil=>.nil
 |_,_,n+1,.cons _ t=>Vals.drop n t
def RelO:Option V->Option Value->Prop
 |some v,some u=>RelV v u
 |none,none=>True
 |_,_=>False
def KV {κ:Type}:List (κ×V)->List (κ×Value)->Prop:=Paired λ(p:κ×V) (q:κ×Value)=>p.1=q.1/\RelV p.2 q.2
def kV:Key->V
 | .inl i=>.int i
 | .inr x=>.str x
inductive HO where
  |lst (xs:List V)
  |tup (xs:List V)
  |dK (kvs:List (Key×V)) |dT (kvs:List (List Key×V))
  |set (S:Int->Bool) (n:Nat)
  |ins (C dx:Addr) (fs:List (Str×V))
  |own (x:Addr)
  |xd (fs:List (Str×V))
  |met (f x:Addr)
  |rng (lo hi:Int)
  |frz (o:Obj) (u:HO)
  |tbl (ps:Array Value)
  |ext (φ:Heap->Prop)
abbrev Hp:=Addr->Option HO
def upd (H:Hp)(a:Addr)(o:HO):Hp:=λb=>if b=a then some o else H b
theorem upd_same {H:Hp}{a:Addr}{o:HO}:upd H a o a=some o:=by unfold upd;rw[if_pos rfl]
theorem upd_ne {H:Hp}{a b:Addr}{o:HO}(h:b≠a):upd H a o b=H b:=by unfold upd;rw[if_neg h]
theorem ne_of_none {H:Hp}{a b:Addr}{o:HO}(h:H a=some o)(h':H b=none):a≠b:=by
 intro e;subst e;rw[h]at h';cases h'
section
variable (P:Program)(w:World)
def ObjOk (H:Hp)(h:Heap)(a:Addr):HO->Prop
 | .lst xs=>xs.length<=sizeLine/\∃(its:List Value) (n:Nat),Vals xs its/\h.get? a=some {cls:=.type "list",data:=.seq its.toArray n}
 | .tup xs=>xs.length<=sizeLine/\∃its:List Value,Vals xs its/\IsTup h a its.toArray
 | .dK kvs=>kvs.length<=sizeLine/\(a==sysModules)=false/\∃vs,KV kvs vs/\h.DictOf (mixKind P w) a vs
 | .dT kvs=>kvs.length<=sizeLine/\(a==sysModules)=false/\∃xs:List (List Key×Addr×Value),
   Paired (λ(p:List Key×V) (q:List Key×Addr×Value)=>p.1=q.1/\H q.2.1=some (.tup (p.1.map kV))/\RelV p.2 q.2.2) kvs xs/\
   ∃o es ep,h.get? a=some o/\o.ExactDict/\o.data = .dict es ep/\es.toList=xs.map (entryOfKey (tupleKind (mixKind P w)))/\(xs.map (·.1)).Nodup
 | .set S n=>h.SetOf (intKind P w) a S n
 | .ins C dx fs=>H dx=some (.own a)/\fs.length<=1000/\dx≠a/\h.get? a=some (instObj C dx)/\
   ∃mA,h.Ns1 dx mA/\(∀f,RelO (fs.lookup f) (mA f))/\PySem.Within mA (fs.map (·.1))
 | .own _=>∃o,h.get? a=some o
 | .xd fs=>∃mA,h.Ns1 a mA/\∀f,RelO (fs.lookup f) (mA f)
 | .rng lo hi=>∃t u v,h.get? a=some {cls:=.type "range",data:=.fields #[.int lo t,.int hi u,.int 1 v]}
 | .frz o u=>h.get? a=some o/\ObjOk H h a u
 | .tbl ps=>h.get? a=some {cls:=.none,data:=.fields ps}
 | .met f x=>h.get? a=some (methodObj (.ref f) (.ref x))
 | .ext φ=>φ h/\(∃o,h.get? a=some o)/\∀h1 h2:Heap,φ h1->(∀o,h1.get? a=some o->h2.get? a=some o)->φ h2
def HOk (H:Hp)(h:Heap):Prop:=∀a o,H a=some o->ObjOk P w H h a o
end
section
variable {P:Program}{w:World}{H H':Hp}{h h':Heap}{a:Addr}{o:HO}
theorem ObjOk.lt (x:ObjOk P w H h a o):a<h.objs.size:=by
 cases o with
 |lst xs=>obtain⟨_,_,_,_,e⟩:=x;exact lt_size e
 |tup xs=>obtain⟨_,_,_,p⟩:=x;exact p.lt
 |dK kvs=>obtain⟨_,_,_,_,o,_,_,e,_⟩:=x;exact lt_size e
 |dT kvs=>obtain⟨_,_,_,_,o,_,_,e,_⟩:=x;exact lt_size e
 |set S n=>obtain⟨o,_,_,_,e,_⟩:=x;exact lt_size e
 |ins C dx fs=>obtain⟨_,_,_,e,_⟩:=x;exact lt_size e
 |own y=>obtain⟨_,e⟩:=x;exact lt_size e
 |xd fs=>obtain⟨_,⟨_,_,_,e,_⟩,_⟩:=x;exact lt_size e
 |rng lo hi=>obtain⟨_,_,_,e⟩:=x;exact lt_size e
 |frz ob u=>obtain⟨e,_⟩:=x;exact lt_size e
 |tbl ps=>exact lt_size (show h.get? a=some _ from x)
 |met f y=>exact lt_size (show h.get? a=some _ from x)
 |ext φ=>obtain⟨_,⟨_,e⟩,_⟩:=x;exact lt_size e
theorem Paired.mapP {α β:Type}{F δ:α->β->Prop}:∀{l₁:List α} {l₂:List β},Paired F l₁ l₂->(∀a b,F a b->δ a b)->Paired δ l₁ l₂
 |_,_,.nil,_=>.nil
 |_,_,.cons r t,f=>.cons (f _ _ r) (Paired.mapP t f)
theorem ObjOk.stay (x:ObjOk P w H h a o)(k:∀b u,(b=a∨H b=some (.own a))->h.get? b=some u->h'.get? b=some u)
  (ho:∀b,H b=some (.own a)->H' b=some (.own a)) (ht:∀b xs,H b=some (.tup xs)->H' b=some (.tup xs)):ObjOk P w H' h' a o:=by
 induction o with
 |lst xs=>obtain⟨z,its,n,r,e⟩:=x;exact⟨z,its,n,r,k _ _ (.inl rfl) e⟩
 |tup xs=>obtain⟨z,its,r,ob,e,c⟩:=x;exact⟨z,its,r,ob,k _ _ (.inl rfl) e,c⟩
 |dK kvs=>obtain⟨z,y,vs,r,ob,es,ep,e,c⟩:=x;exact⟨z,y,vs,r,ob,es,ep,k _ _ (.inl rfl) e,c⟩
 |dT kvs=>
  obtain⟨z,y,xs,r,ob,es,ep,e,c⟩:=x
  exact⟨z,y,xs,Paired.mapP r λp q z=>⟨z.1,ht _ _ z.2.1,z.2.2⟩,ob,es,ep,k _ _ (.inl rfl) e,c⟩
 |set S n=>obtain⟨ob,es,ep,t,e,c⟩:=x;exact⟨ob,es,ep,t,k _ _ (.inl rfl) e,c⟩
 |ins C dx fs=>
  obtain⟨d,z,ne,e,mA,⟨od,es,ep,e2,c⟩,r⟩:=x
  exact⟨ho _ d,z,ne,k _ _ (.inl rfl) e,mA,⟨od,es,ep,k _ _ (.inr d) e2,c⟩,r⟩
 |own y=>obtain⟨ob,e⟩:=x;exact⟨ob,k _ _ (.inl rfl) e⟩
 |xd fs=>obtain⟨mA,⟨od,es,ep,e,c⟩,r⟩:=x;exact⟨mA,⟨od,es,ep,k _ _ (.inl rfl) e,c⟩,r⟩
 |rng lo hi=>obtain⟨t,u,v,e⟩:=x;exact⟨t,u,v,k _ _ (.inl rfl) e⟩
 |frz ob u ih=>obtain⟨e,q⟩:=x;exact⟨k _ _ (.inl rfl) e,ih q⟩
 |tbl ps=>
  have e:h.get? a=some {cls:=.none,data:=.fields ps}:=x
  show h'.get? a=some {cls:=.none,data:=.fields ps}
  exact k a _ (.inl rfl) e
 |met f y=>
  have e:h.get? a=some (methodObj (.ref f) (.ref y)):=x
  show h'.get? a=some (methodObj (.ref f) (.ref y))
  exact k a _ (.inl rfl) e
 |ext φ=>obtain⟨p,⟨o,e⟩,st⟩:=x;exact⟨st _ _ p λo q=>k _ _ (.inl rfl) q,⟨o,k _ _ (.inl rfl) e⟩,st⟩
theorem HOk.lt (x:HOk P w H h)(e:H a=some o):a<h.objs.size:=(x a o e).lt
theorem HOk.fresh (x:HOk P w H h)(e:h.objs.size<=a):H a=none:=by
 cases q:H a with
 |none=>rfl
 |some u=>exact absurd (lt_of_lt_of_le (x.lt q) e) (lt_irrefl _)
theorem HOk.kept (x:HOk P w H h)(k:∀b u,h.get? b=some u->h'.get? b=some u):HOk P w H h':=λa o e=>
 (x a o e).stay (λb u _ q=>k b u q) (λ_ q=>q) λ_ _ q=>q
theorem HOk.laid (x:HOk P w H h)(k:∀b u,h.get? b=some u->h'.get? b=some u)(hp:h.objs.size<=a)(new:ObjOk P w (upd H a o) h' a o):HOk P w (upd H a o) h':=λb u e=>by
 have hn:=x.fresh hp
 by_cases hb:b=a
 .subst hb;rw[upd_same]at e;cases e;exact new
 .rw [upd_ne hb]at e
  exact (x b u e).stay (λc v _ q=>k c v q) (λc q=>by rw[upd_ne (ne_of_none q hn)];exact q) λc xs q=>by rw[upd_ne (ne_of_none q hn)];exact q
end
def Rd (H:Hp)(a:Addr)(u:HO):Prop:=H a=some u∨∃o,H a=some (.frz o u)
theorem Rd.ok {P:Program}{w:World}{H:Hp}{h:Heap}{a:Addr}{u:HO}(r:Rd H a u)(x:HOk P w H h):ObjOk P w H h a u:=by
 rcases r with r | ⟨o,r⟩
 .exact x a u r
 .obtain ⟨_,q⟩:=x a _ r
  exact q
def Mut:Option HO->Prop
 |some (.lst _)=>True
 |some (.dK _)=>True
 |some (.dT _)=>True
 |some (.set _ _)=>True
 |some (.ins _ _ _)=>True
 |some (.ext _)=>True
 |_=>False
section
variable {P:Program}{w:World}{H:Hp}{h h':Heap}{x e:Addr}{o':HO}
theorem HOk.write (ok:HOk P w H h)(mu:Mut (H x))(he:e=x∨H e=some (.own x))(k:∀b u,b≠e->h.get? b=some u->h'.get? b=some u)(heo:∃u,h'.get? e=some u)
  (new:ObjOk P w (upd H x o') h' x o'):HOk P w (upd H x o') h':=λb u q=>by
 have nown:∀c y,H c=some (.own y)->c≠x:=λc y r z=>by subst z;rw[r]at mu;exact mu
 have ntup:∀c xs,H c=some (.tup xs)->c≠x:=λc xs r z=>by subst z;rw[r]at mu;exact mu
 by_cases hb:b=x
 .subst hb;rw[upd_same]at q;cases q;exact new
 .rw [upd_ne hb]at q
  by_cases hbe:b=e
  .have q':H b=some (.own x):=by
    rcases he with z |z
    .exact absurd (hbe.trans z) hb
    .rw [hbe];exact z
   rw[q]at q';cases q'
   obtain⟨v,hv⟩:=heo
   exact⟨v,by rw[hbe];exact hv⟩
  .refine (ok b u q).stay (λc v hc r=>k c v ?_ r) (λc r=>by rw[upd_ne (nown c b r)];exact r) λc xs r=>by rw[upd_ne (ntup c xs r)];exact r
   rcases hc with rfl |hc
   .exact hbe
   .rintro rfl
    rcases he with z |z
    .exact nown c b hc z
    .rw [hc]at z;cases z;exact hb rfl
end
structure Un (fs ex:List Addr) (H H':Hp) (h h':Heap):Prop where
 keep:∀b o,h.get? b=some o->H b=none->b∉fs->b∉ex->h'.get? b=some o
 slot:∀b o,h.get? b=some o->H b=none->b∈fs->b∉ex->∃sl,h'.get? b=some {o with slots:=sl}
 free:∀b o,h.get? b=some o->H b=none->b∉ex->H' b=none
 there:∀b o,h.get? b=some o->b∉ex->∃o',h'.get? b=some o'
 tups:∀b xs,H b=some (.tup xs)->H' b=some (.tup xs)
 frzs:∀b o u,H b=some (.frz o u)->H' b=some (.frz o u)
 tbls:∀b ps,H b=some (.tbl ps)->∃more,H' b=some (.tbl (ps++more))
section
variable {fs fs' ex ex':List Addr}{H H1 H2:Hp}{h h1 h2 h':Heap}{a x e:Addr}{o:HO}
theorem Un.any (u:Un fs ex H H1 h h1){b:Addr}{ob:Obj}(q:h.get? b=some ob)(n:H b=none)(hx:b∉ex):∃sl,h1.get? b=some {ob with slots:=sl}:=by
 by_cases hb:b∈fs
 .exact u.slot b ob q n hb hx
 .exact ⟨ob.slots,u.keep b ob q n hb hx⟩
theorem Un.kept (k:∀b u,h.get? b=some u->h'.get? b=some u):Un fs ex H H h h':=
 ⟨λb ob q _ _ _=>k b ob q,λb ob q _ _ _=>⟨ob.slots,k b ob q⟩,λ_ _ _ n _=>n,λb ob q _=>⟨ob,k b ob q⟩,λ_ _ q=>q,λ_ _ _ q=>q,λ_ ps q=>⟨#[],by rw[q];simp⟩⟩
theorem Un.refl:Un fs ex H H h h:=Un.kept λ_ _ q=>q
theorem Un.laid (k:∀b u,h.get? b=some u->h'.get? b=some u)(hp:h.objs.size<=a)(hn:H a=none):Un fs ex H (upd H a o) h h' where
 keep:=λb u q _ _ _=>k b u q
 slot:=λb u q _ _ _=>⟨u.slots,k b u q⟩
 free:=λb u q n _=>by rw[upd_ne (ne_of_lt (lt_of_lt_of_le (lt_size q) hp))];exact n
 there:=λb u q _=>⟨u,k b u q⟩
 tups:=λb xs q=>by rw[upd_ne (ne_of_none q hn)];exact q
 frzs:=λb u xs q=>by rw[upd_ne (ne_of_none q hn)];exact q
 tbls:=λb ps q=>⟨#[],by rw[upd_ne (ne_of_none q hn),q];simp⟩
theorem Un.write (mu:Mut (H x))(he:e=x∨H e=some (.own x))(k:∀b u,b≠e->h.get? b=some u->h'.get? b=some u)(heo:∃u,h'.get? e=some u):Un fs ex H (upd H x o) h h':=by
 have hx:∀b,H b=none->b≠x:=λb n z=>by subst z;rw[n]at mu;exact mu
 have hb:∀b,H b=none->b≠e:=λb n z=>by
  subst z
  rcases he with r |r
  .exact hx b n r
  .rw [n]at r;cases r
 have hm:∀b u,H b=some u->¬ Mut (some u)->b≠x:=λb u q nm z=>by subst z;rw[q]at mu;exact nm mu
 refine⟨λb u q n _ _=>k b u (hb b n) q,λb u q n _ _=>⟨u.slots,k b u (hb b n) q⟩,λb u q n _=>by rw[upd_ne (hx b n)];exact n,λb u q _=>?_,
  λb xs q=>by rw[upd_ne (hm b _ q λz=>z)];exact q,λb u xs q=>by rw[upd_ne (hm b _ q λz=>z)];exact q,λb ps q=>⟨#[],by rw[upd_ne (hm b _ q λz=>z),q];simp⟩⟩
 by_cases hbe:b=e
 .subst hbe;exact heo
 .exact ⟨u,k b u hbe q⟩
end
def trk (h:Heap)(H:Hp):List Addr:=(List.range h.objs.size).filter λa=>(H a).isSome
def hidT (h:Heap)(H:Hp):Heap:=PySem.W.hideAll h (trk h H)
theorem hidT_size (h:Heap)(H:Hp):(hidT h H).objs.size=h.objs.size:=PySem.W.hideAll_size _ _
theorem hidT_get {h:Heap}{H:Hp}{b:Addr}{o:Obj}(e:h.get? b=some o)(n:H b=none):(hidT h H).get? b=some o:=
 PySem.W.hideAll_get _ e λhm=>by
  have q:(H b).isSome=true:=(List.mem_filter.mp hm).2
  rw[n]at q;simp at q
theorem of_hidT {h:Heap}{H:Hp}{b:Addr}{o:Obj}(e:(hidT h H).get? b=some o):h.get? b=some o/\H b=none:=by
 have e':h.get? b=some o:=PySem.W.of_hideAll (trk h H) e
 refine⟨e',?_⟩
 cases q:H b with
 |none=>rfl
 |some x=>
  have hm:b∈trk h H:=List.mem_filter.mpr ⟨List.mem_range.mpr (lt_size e'),by simp[q]⟩
  have z:(hidT h H).get? b=none:=PySem.W.hideAll_none (trk h H) hm
  rw[z]at e;cases e
def allNews (g h:Heap)(L:Addr):List (Addr×Obj):=(List.range h.objs.size).filterMap λa=>if a=L∨(g.get? a).isSome=true then none else (h.get? a).map λo=>(a,o)
def rest (g h:Heap)(L d:Addr):List (Addr×Obj):=(allNews g h L).filter λp=>decide (p.1≠d)
structure Mod (K:Frag) (mg:Str->Option Value) (base:Heap):Prop where
 kin:K.In base
 glob:base.Ns mainGlobals mg
 blt:∃mb,base.Ns builtinsNs mb/\∀x:Str,x ≠ "__name__"->mb x=bootBuiltins x
 nolimit:base.NoLimit
structure Cx where
 prog:Program
 w:World
 K:Frag
 mg:Str->Option Value
 base:Heap
 A:Around
 N:List Str
 s₀:Shared
 H₀:Hp
 env:Env
 outer:List Env
 stack:List Env
 ex:List Addr
 fn:Str->Bool
 calm:Bool
 pn:List (Addr×Obj)
 xe:Value->Shared->Prop
def frs (l:List Env):List Addr:=l.filterMap (·.frame)
abbrev Cx.fs (X:Cx):List Addr:=frs X.outer
def Vis (sc:Scope)(x:Str):Prop:=sc.names.lookup x=some .local∨sc.names.lookup x=some .cell∨sc.names.lookup x=some .free
def Loc (sc:Scope)(x:Str):Prop:=sc.names.lookup x=some .local∨sc.names.lookup x=some .cell
def Look (env:Env)(h:Heap)(m:Str->Option Value)(x:Str)(u:Value):Prop:=
 (env.kindOf x=some .local/\m x=some u)∨((env.kindOf x=some .cell∨env.kindOf x=some .free)/\∃c,env.cells.lookup x=some c/\h.IsCell c (some u))
structure Cx.Ok (X:Cx):Prop where
 mod:Mod X.K X.mg X.base
 kind:X.env.scope.kind = .function
 glob:X.env.globals=mainGlobals
 blt:X.env.builtins=builtinsNs
 above:X.s₀.heap.objs.size<=X.env.locals
 inj:∀x y c,X.env.cells.lookup x=some c->X.env.cells.lookup y=some c->x=y
 has:∀x,(X.env.kindOf x=some .cell∨X.env.kindOf x=some .free)->∃c,X.env.cells.lookup x=some c
 cab:∀x c,X.fn x=true->X.env.cells.lookup x=some c->X.s₀.heap.objs.size<=c
 hd:X.calm=true->X.A.handled=none
 frames:X.A.frames=some X.stack
 stk:X.stack=X.outer∨(X.stack=X.env::X.outer/\X.env.frame=some X.env.locals)
 exf:∀b∈X.ex,b≠X.env.locals/\∀x c,X.env.cells.lookup x=some c->c≠b
 bs:∀b o,X.base.get? b=some o->X.s₀.heap.get? b=some o/\X.H₀ b=none
 bsz:X.base.objs.size<=X.s₀.heap.objs.size
 noex:∀b o,X.base.get? b=some o->b∉X.ex
 exfs:∀b∈X.ex,b∉X.fs
 funs:X.s₀.heap.FunFrames X.base X.outer
 frf:∀b∈X.fs,X.H₀ b=none
structure Inv (X:Cx) (pins:List (Addr×Obj)) (Y:List (Option V)) (H:Hp) (s:Shared):Prop where
 ok:X.Ok
 os:s.os=X.s₀.os
 bare:AllBare s.gens
 base:Un X.fs X.ex X.H₀ H X.s₀.heap s.heap
 loc:∃m,s.heap.Ns X.env.locals m/\∀(i:Nat) (x:Str) (v:V),X.N[i]?=some x->Y[i]?=some (some v)->Vis X.env.scope x->∃u,RelV v u/\Look X.env s.heap m x u
 cell:∀x c,X.env.cells.lookup x=some c->∃v,s.heap.IsCell c v
 free:H X.env.locals=none
 freeC:∀x c,X.env.cells.lookup x=some c->H c=none
 pin:∀p∈X.pn++pins,s.heap.get? p.1=some p.2/\H p.1=none/\p.1≠X.env.locals/\p.1∉X.fs/\∀v,p.2.data≠.cell v
 hok:HOk X.prog X.w H s.heap
 len:Y.length=X.N.length
section
variable {X:Cx}{pins:List (Addr×Obj)}{Y:List (Option V)}{H H':Hp}{s:Shared}{h':Heap}
theorem Cx.Ok.nofr (ok:X.Ok){b:Addr}{o:Obj}(e:X.base.get? b=some o):b∉X.fs:=λhb=>by
 have:=(ok.funs.mem hb).1
 rw[e]at this;cases this
theorem Inv.bs (I:Inv X pins Y H s):∀b o,X.base.get? b=some o->s.heap.get? b=some o/\H b=none:=λb o e=>
 ⟨I.base.keep b o (I.ok.bs b o e).1 (I.ok.bs b o e).2 (I.ok.nofr e) (I.ok.noex b o e),I.base.free b o (I.ok.bs b o e).1 (I.ok.bs b o e).2 (I.ok.noex b o e)⟩
theorem Inv.bk (I:Inv X pins Y H s):∀b o,X.base.get? b=some o->s.heap.get? b=some o:=λb o e=>(I.bs b o e).1
theorem Inv.mod (I:Inv X pins Y H s):Mod X.K X.mg X.base:=I.ok.mod
theorem Inv.kIn (I:Inv X pins Y H s):X.K.In s.heap:=I.ok.mod.kin.keeps I.bk
theorem Inv.nolimit (I:Inv X pins Y H s):s.heap.NoLimit:=I.ok.mod.nolimit.keeps I.bk
theorem Inv.lt (I:Inv X pins Y H s):X.env.locals<s.heap.objs.size:=let⟨_,hn,_⟩:=I.loc;hn.lt
theorem Inv.sz (I:Inv X pins Y H s):X.s₀.heap.objs.size<=s.heap.objs.size:=le_trans I.ok.above (le_of_lt I.lt)
theorem Inv.nofs (I:Inv X pins Y H s){a:Addr}(h:s.heap.objs.size<=a):a∉X.fs:=λhb=>by
 obtain⟨_,o,ho,_⟩:=I.ok.funs.mem hb
 exact absurd (lt_of_lt_of_le (lt_size ho) (le_trans I.sz h)) (lt_irrefl _)
theorem Inv.cne (I:Inv X pins Y H s):∀x c,X.env.cells.lookup x=some c->c≠X.env.locals:=λx c e z=>by
 obtain⟨v,o,ho,hd⟩:=I.cell x c e
 obtain⟨m,⟨o',es,ep,ho',hd',_⟩,_⟩:=I.loc
 rw[z,ho']at ho;cases ho;rw[hd']at hd;cases hd
theorem Inv.funs (I:Inv X pins Y H s):s.heap.FunFrames X.base X.outer:=by
 have all:∀(l:List Env),(∀b∈frs l,b∈X.fs)->X.s₀.heap.FunFrames X.base l->s.heap.FunFrames X.base l:=by
  intro l
  induction l with
  |nil=>intro _ _;trivial
  |cons env r ih=>
   intro hs hl
   obtain⟨hk,⟨L,o,hf,hn,ho,hd⟩,hr⟩:=hl
   have hL:L∈X.fs:=hs L (by unfold frs;rw[filterMap_cons,hf];exact mem_cons_self)
   obtain⟨sl,e⟩:=I.base.slot L o ho (I.ok.frf L hL) hL λz=>I.ok.exfs L z hL
   exact⟨hk,⟨L,_,hf,hn,e,hd⟩,ih (λb hb=>hs b (by unfold frs;rw[filterMap_cons,hf];exact mem_cons_of_mem _ hb)) hr⟩
 exact all X.outer (λ_ hb=>hb) I.ok.funs
theorem Inv.stack (I:Inv X pins Y H s):s.heap.FunFrames X.base X.stack:=by
 rcases I.ok.stk with e | ⟨e,hf⟩
 .rw [e];exact I.funs
 .rw [e]
  obtain⟨m,hn,_⟩:=I.loc
  refine .cons (by rw[I.ok.kind];decide) hf hn ?_ I.funs
  exact Heap.get?_none_of_le (le_trans I.ok.bsz I.ok.above)
theorem Inv.stkSub (I:Inv X pins Y H s):∀b∈frs X.stack,b∈X.env.locals::X.fs:=λb hb=>by
 rcases I.ok.stk with e | ⟨e,hf⟩
 .rw [e]at hb;exact mem_cons_of_mem _ hb
 .rw [e]at hb
  unfold frs at hb
  rw[filterMap_cons,hf]at hb
  exact hb
theorem Inv.stkFree (I:Inv X pins Y H s):∀b∈frs X.stack,H b=none:=λb hb=>by
 rcases mem_cons.mp (I.stkSub b hb) with e |hb
 .rw [e];exact I.free
 .obtain ⟨_,o,ho,_⟩:=I.ok.funs.mem hb
  exact I.base.free b o ho (I.ok.frf b hb) λz=>I.ok.exfs b z hb
theorem Inv.step {g':Array GenState}{t':Nat}{d':Drawn}{ch:List Addr}(I:Inv X pins Y H s)
  (hch:∀b∈ch,(b∈X.ex∨X.s₀.heap.objs.size<=b)/\b≠X.env.locals/\(∀x c,X.env.cells.lookup x=some c->c≠b)/\∀p∈X.pn++pins,p.1≠b)
  (keep:∀b o,b≠X.env.locals->b∉X.fs->b∉ch->s.heap.get? b=some o->H b=none->h'.get? b=some o)
  (slot:∀b o,b≠X.env.locals->b∈X.fs->b∉ch->s.heap.get? b=some o->H b=none->∃sl,h'.get? b=some {o with slots:=sl}) (free:∀b o,b∉ch->s.heap.get? b=some o->H b=none->H' b=none)
  (there:∀b o,b∉ch->s.heap.get? b=some o->∃o',h'.get? b=some o')
  (tups:∀b xs,H b=some (.tup xs)->H' b=some (.tup xs)) (frzs:∀b o u,H b=some (.frz o u)->H' b=some (.frz o u)) (tbls:∀b ps,H b=some (.tbl ps)->∃more,H' b=some (.tbl (ps++more)))
  (ns:∀m,s.heap.Ns X.env.locals m->h'.Ns X.env.locals m) (hok:HOk X.prog X.w H' h') (hg:AllBare g'):
  Inv X pins Y H' {s with heap:=h',gens:=g',drawn:=d',toks:=t'}:=by
 have neL:∀b o,X.s₀.heap.get? b=some o->b≠X.env.locals:=λb o e=>ne_of_lt (lt_of_lt_of_le (lt_size e) I.ok.above)
 have neC:∀b o,X.s₀.heap.get? b=some o->b∉X.ex->b∉ch:=λb o e hx hb=>by
  rcases (hch b hb).1 with z |z
  .exact hx z
  .exact absurd (lt_of_lt_of_le (lt_size e) z) (lt_irrefl _)
 have cellK:∀x c,X.env.cells.lookup x=some c->∀v,s.heap.IsCell c v->h'.IsCell c v:=λx c e v ⟨o,ho,hd⟩=>by
  have nch:c∉ch:=λz=>(hch c z).2.2.1 x c e rfl
  by_cases hc:c∈X.fs
  .obtain ⟨sl,q⟩:=slot c o (I.cne x c e) hc nch ho (I.freeC x c e)
   exact⟨_,q,hd⟩
  .exact ⟨o,keep c o (I.cne x c e) hc nch ho (I.freeC x c e),hd⟩
 refine⟨I.ok,I.os,hg,⟨λb o e n hb hx=>?_,λb o e n hb hx=>?_,λb o e n hx=>?_,λb o e hx=>?_,λb xs e=>tups b xs (I.base.tups b xs e),λb o xs e=>frzs b o xs (I.base.frzs b o xs e),λb ps e=>?_⟩,?_,λx c e=>?_,?_,λx c e=>?_,λp hp=>?_,hok,I.len⟩
 .exact keep b o (neL b o e) hb (neC b o e hx) (I.base.keep b o e n hb hx) (I.base.free b o e n hx)
 .obtain ⟨sl,e1⟩:=I.base.slot b o e n hb hx
  obtain⟨sl',e2⟩:=slot b _ (neL b o e) hb (neC b o e hx) e1 (I.base.free b o e n hx)
  exact⟨sl',e2⟩
 .obtain ⟨o',e1⟩:=I.base.there b o e hx
  exact free b o' (neC b o e hx) e1 (I.base.free b o e n hx)
 .obtain ⟨o',e1⟩:=I.base.there b o e hx
  exact there b o' (neC b o e hx) e1
 .obtain ⟨m1,e1⟩:=I.base.tbls b ps e
  obtain⟨m2,e2⟩:=tbls b _ e1
  exact⟨m1++m2,by rw[e2,Array.append_assoc]⟩
 .obtain ⟨m,hn,hl⟩:=I.loc
  refine⟨m,ns m hn,λi x v e1 e2 e3=>?_⟩
  obtain⟨u,r,l⟩:=hl i x v e1 e2 e3
  refine⟨u,r,?_⟩
  rcases l with l | ⟨k,c,e,z⟩
  .exact .inl l
  .exact .inr ⟨k,c,e,cellK x c e _ z⟩
 .obtain ⟨v,z⟩:=I.cell x c e
  exact⟨v,cellK x c e v z⟩
 .obtain ⟨m,⟨o,_,_,ho,_⟩,_⟩:=I.loc
  exact free _ o (λz=>(hch _ z).2.1 rfl) ho I.free
 .obtain ⟨v,o,ho,hd⟩:=I.cell x c e
  exact free c o (λz=>(hch c z).2.2.1 x c e rfl) ho (I.freeC x c e)
 .obtain ⟨e,n,ne,nf,d⟩:=I.pin p hp
  have nch:p.1∉ch:=λz=>(hch p.1 z).2.2.2 p hp rfl
  exact⟨keep p.1 p.2 ne nf nch e n,free p.1 p.2 nch e n,ne,nf,d⟩
theorem Inv.un {t':Nat}(I:Inv X pins Y H s)(u:Un X.fs [] H H' s.heap h')(hok:HOk X.prog X.w H' h'):Inv X pins Y H' {s with heap:=h',toks:=t'}:=by
 obtain⟨m,⟨o,es,ep,ho,r⟩,_⟩:=id I.loc
 obtain⟨sl,hL⟩:=u.any ho I.free (by simp)
 exact I.step (g':=s.gens) (d':=s.drawn) (ch:=[]) (λ_ z=>nomatch z) (λb o _ hb _ e n=>u.keep b o e n hb (by simp)) (λb o _ hb _ e n=>u.slot b o e n hb (by simp)) (λb o _ e n=>u.free b o e n (by simp)) (λb o _ e=>u.there b o e (by simp)) u.tups u.frzs u.tbls (λm' hm=>by
  obtain⟨o',es',ep',ho',r'⟩:=hm
  rw[ho]at ho';cases ho'
  exact⟨_,es',ep',hL,r'⟩) hok I.bare
theorem Inv.call {g':Array GenState}{t':Nat}{d':Drawn}{ch:List Addr}(I:Inv X pins Y H s)(u:Un (frs X.stack) ch H H' s.heap h')(hok:HOk X.prog X.w H' h')(hg:AllBare g')
  (hch:∀b∈ch,(b∈X.ex∨X.s₀.heap.objs.size<=b)/\b≠X.env.locals/\(∀x c,X.env.cells.lookup x=some c->c≠b)/\∀p∈X.pn++pins,p.1≠b):
  Inv X pins Y H' {s with heap:=h',gens:=g',drawn:=d',toks:=t'}:=by
 obtain⟨m,⟨o,es,ep,ho,r⟩,_⟩:=id I.loc
 obtain⟨sl,hL⟩:=u.any ho I.free λz=>(hch _ z).2.1 rfl
 exact I.step (ch:=ch) hch (λb o hL hb hc e n=>u.keep b o e n (λz=>(mem_cons.mp (I.stkSub b z)).elim hL hb) hc) (λb o _ _ hc e n=>u.any e n hc) (λb o hc e n=>u.free b o e n hc) (λb o hc e=>u.there b o e hc) u.tups u.frzs u.tbls (λm' hm=>by
  obtain⟨o',es',ep',ho',r'⟩:=hm
  rw[ho]at ho';cases ho'
  exact⟨_,es',ep',hL,r'⟩) hok hg
theorem Inv.turned {t':Nat}{it:Addr}(I:Inv X pins Y H s)(k:∀b o,b≠it->s.heap.get? b=some o->h'.get? b=some o)(hn:H it=none)(hL:it≠X.env.locals)
  (h1:it∈X.ex∨X.s₀.heap.objs.size<=it) (h2:∀x c,X.env.cells.lookup x=some c->c≠it) (h3:∀p∈X.pn++pins,p.1≠it):Inv X pins Y H {s with heap:=h',toks:=t'}:=by
 have nit:∀b u,H b=some u->b≠it:=λb u e z=>by rw[z,hn]at e;cases e
 refine I.step (g':=s.gens) (d':=s.drawn) (ch:=[it]) (λb hb=>?_) (λb o _ _ hc e _=>k b o (λz=>hc (by simp[z])) e) (λb o _ _ hc e _=>⟨o.slots,k b o (λz=>hc (by simp[z])) e⟩) (λ_ _ _ _ n=>n)
  (λb o hc e=>⟨o,k b o (λz=>hc (by simp[z])) e⟩) (λ_ _ e=>e) (λ_ _ _ e=>e) (λb ps e=>⟨#[],by rw[e];simp⟩) (λm hm=>?_) (λb u e=>?_) I.bare
 .have e:b=it:=by simpa using hb
  subst e
  exact⟨h1,hL,h2,h3⟩
 .obtain ⟨o,es,ep,ho,r⟩:=hm
  exact⟨o,es,ep,k _ o (Ne.symm hL) ho,r⟩
 .refine (I.hok b u e).stay (λc v hc q=>k c v ?_ q) (λ_ q=>q) λ_ _ q=>q
  rcases hc with z |z
  .rw [z];exact nit b u e
  .exact nit c _ z
theorem Inv.tok (I:Inv X pins Y H s)(t:Nat):Inv X pins Y H {s with toks:=t}:=I.un (h':=s.heap) (t':=t) Un.refl I.hok
theorem Inv.kept {t':Nat}(I:Inv X pins Y H s)(k:∀b u,s.heap.get? b=some u->h'.get? b=some u):Inv X pins Y H {s with heap:=h',toks:=t'}:=I.un (Un.kept k) (I.hok.kept k)
theorem Inv.laid {a:Addr}{o:HO}{t':Nat}(I:Inv X pins Y H s)(k:∀b u,s.heap.get? b=some u->h'.get? b=some u)(hp:s.heap.objs.size<=a)(new:ObjOk X.prog X.w (upd H a o) h' a o):
  Inv X pins Y (upd H a o) {s with heap:=h',toks:=t'}:=I.un (Un.laid k hp (I.hok.fresh hp)) (I.hok.laid k hp new)
theorem Inv.write {x e:Addr}{o:HO}{t':Nat}(I:Inv X pins Y H s)(mu:Mut (H x))(he:e=x∨H e=some (.own x))(k:∀b u,b≠e->s.heap.get? b=some u->h'.get? b=some u)(heo:∃u,h'.get? e=some u)
  (new:ObjOk X.prog X.w (upd H x o) h' x o):Inv X pins Y (upd H x o) {s with heap:=h',toks:=t'}:=I.un (Un.write mu he k heo) (I.hok.write mu he k heo new)
theorem Inv.pins_of {pins':List (Addr×Obj)}(I:Inv X pins Y H s)(h:∀p∈pins',s.heap.get? p.1=some p.2/\H p.1=none/\p.1≠X.env.locals/\p.1∉X.fs/\∀v,p.2.data≠.cell v):Inv X pins' Y H s:=
 ⟨I.ok,I.os,I.bare,I.base,I.loc,I.cell,I.free,I.freeC,λp hp=>(mem_append.mp hp).elim (λz=>I.pin p (mem_append_left _ z)) (h p),I.hok,I.len⟩
theorem nodup_ix {N:List Str}(hN:N.Nodup){i j:Nat}{x:Str}(a:N[i]?=some x)(b:N[j]?=some x):i=j:=by
 obtain⟨h1,e1⟩:=List.getElem?_eq_some_iff.mp a
 obtain⟨h2,e2⟩:=List.getElem?_eq_some_iff.mp b
 exact (List.getElem_inj hN).mp (e1.trans e2.symm)
theorem store_ok2 {M:Model}{A:Around}{E:Value->Shared->Prop}{i:Nat}{x:Str}{v:V}{u:Value}{Q:Unit->Shared->Prop}(I:Inv X pins Y H s)(hN:X.N.Nodup)(hi:X.N[i]?=some x)(hx:Loc X.env.scope x)(r:RelV v u)
  (h:∀s',Inv X pins (Y.set i (some v)) H s'->(∃a,Heap.SameBut a s.heap s'.heap/\(a=X.env.locals∨X.env.cells.lookup x=some a))->Q () s') (hf:X.fn x=true∨X.env.scope.names.lookup x=some .local:=by first |exact .inl rfl |exact .inr rfl |assumption):wpAny M A (storeName X.env x u) Q E s:=by
 obtain⟨m,hn,hl⟩:=id I.loc
 have hcls:(X.env.scope.kind == .class || (X.env.scope.kind == .module && X.env.locals != X.env.globals))=false:=by rw[I.ok.kind];rfl
 have hiσ:i<Y.length:=by rw[I.len];exact (List.getElem?_eq_some_iff.mp hi).1
 have cne:=I.cne
 have tracked:∀{a:Addr} {h':Heap},(∃o,s.heap.get? a=some o/\H a=none)->Heap.SameBut a s.heap h'->HOk X.prog X.w H h':=λ{a h'} ha hs b ob e=>by
  obtain⟨_,_,hfree⟩:=ha
  refine (I.hok b ob e).stay (λc w' hc q=>(hs.2 c ?_).trans q) (λ_ q=>q) λ_ _ q=>q
  rintro rfl
  rcases hc with rfl |hc
  .rw [hfree]at e;cases e
  .rw [hfree]at hc;cases hc
 rcases hx with hk |hk
 .refine wpAny_storeName_local hk hn (λh' hn' hs=>?_) hcls
  obtain⟨oL,_,_,hoL,_⟩:=id hn
  refine h _ ⟨I.ok,I.os,I.bare,⟨λb o e n hb hx=>?_,λb o e n hb hx=>?_,I.base.free,λb o e hx=>?_,I.base.tups,I.base.frzs,I.base.tbls⟩,⟨_,hn',λj y v' e1 e2 e3=>?_⟩,λy c e=>?_,I.free,I.freeC,λp hp=>?_,tracked ⟨oL,hoL,I.free⟩ hs,by simpa using I.len⟩ ⟨_,hs,.inl rfl⟩
  .exact (hs.2 b (ne_of_lt (lt_of_lt_of_le (lt_size e) I.ok.above))).trans (I.base.keep b o e n hb hx)
  .obtain ⟨sl,e1⟩:=I.base.slot b o e n hb hx
   exact⟨sl,(hs.2 b (ne_of_lt (lt_of_lt_of_le (lt_size e) I.ok.above))).trans e1⟩
  .obtain ⟨o',e1⟩:=I.base.there b o e hx
   exact⟨o',(hs.2 b (ne_of_lt (lt_of_lt_of_le (lt_size e) I.ok.above))).trans e1⟩
  .by_cases hj:j=i
   .subst hj
    rw[hi]at e1;cases e1
    rw[getElem?_set_self hiσ]at e2
    cases e2
    exact⟨u,r,.inl ⟨hk,by simp⟩⟩
   .rw [getElem?_set_ne (Ne.symm hj)]at e2
    obtain⟨u',r',q⟩:=hl j y v' e1 e2 e3
    refine⟨u',r',?_⟩
    rcases q with⟨k,e⟩ | ⟨k,c,e,z⟩
    .refine .inl ⟨k,?_⟩
     have:y≠x:=λe=>hj (nodup_ix hN e1 (e▸hi))
     simp[this,e]
    .exact .inr ⟨k,c,e,z.sameBut hs (cne y c e)⟩
  .obtain ⟨w',z⟩:=I.cell y c e
   exact⟨w',z.sameBut hs (cne y c e)⟩
  .obtain ⟨e,n,ne,nf,d⟩:=I.pin p hp
   exact⟨(hs.2 p.1 ne).trans e,n,ne,nf,d⟩
 .have hfn:X.fn x=true:=by
   rcases hf with z |z
   .exact z
   .rw [z]at hk;cases hk
  obtain⟨c,hc⟩:=I.ok.has x (.inl hk)
  obtain⟨w',z⟩:=I.cell x c hc
  refine wpAny_storeName_cell I.ok.kind hk hc z (λh' hc' hs=>?_)
  obtain⟨oc,hoc,hocd⟩:=id z
  refine h {s with heap:=h'} ⟨I.ok,I.os,I.bare,⟨λb o e n hb hx=>?_,λb o e n hb hx=>?_,I.base.free,λb o e hx=>?_,I.base.tups,I.base.frzs,I.base.tbls⟩,⟨m,hn.sameBut hs (Ne.symm (cne x c hc)),λj y v' e1 e2 e3=>?_⟩,λy c' e=>?_,I.free,I.freeC,λp hp=>?_,tracked ⟨oc,hoc,I.freeC x c hc⟩ hs,by simpa using I.len⟩ ⟨c,hs,.inr hc⟩
  .exact (hs.2 b (ne_of_lt (lt_of_lt_of_le (lt_size e) (I.ok.cab x c hfn hc)))).trans (I.base.keep b o e n hb hx)
  .obtain ⟨sl,e1⟩:=I.base.slot b o e n hb hx
   exact⟨sl,(hs.2 b (ne_of_lt (lt_of_lt_of_le (lt_size e) (I.ok.cab x c hfn hc)))).trans e1⟩
  .obtain ⟨o',e1⟩:=I.base.there b o e hx
   exact⟨o',(hs.2 b (ne_of_lt (lt_of_lt_of_le (lt_size e) (I.ok.cab x c hfn hc)))).trans e1⟩
  .by_cases hj:j=i
   .subst hj
    rw[hi]at e1;cases e1
    rw[getElem?_set_self hiσ]at e2
    cases e2
    exact⟨u,r,.inr ⟨.inl hk,c,hc,hc'⟩⟩
   .rw [getElem?_set_ne (Ne.symm hj)]at e2
    obtain⟨u',r',q⟩:=hl j y v' e1 e2 e3
    refine⟨u',r',?_⟩
    rcases q with q | ⟨k,c',e,z'⟩
    .exact .inl q
    .refine .inr ⟨k,c',e,z'.sameBut hs ?_⟩
     rintro rfl
     exact hj (nodup_ix hN e1 (I.ok.inj _ _ _ e hc▸hi))
  .by_cases hcc:c'=c
   .subst hcc;exact⟨_,hc'⟩
   .obtain ⟨w2,z2⟩:=I.cell y c' e
    exact⟨w2,z2.sameBut hs hcc⟩
  .obtain ⟨e,n,ne,nf,d⟩:=I.pin p hp
   refine⟨(hs.2 p.1 ?_).trans e,n,ne,nf,d⟩
   intro q
   rw[q,hoc]at e
   have q':oc=p.2:=Option.some.inj e
   exact d w' (by rw[<- q'];exact hocd)
theorem store_ok {M:Model}{A:Around}{E:Value->Shared->Prop}{i:Nat}{x:Str}{v:V}{u:Value}{Q:Unit->Shared->Prop}(I:Inv X pins Y H s)(hN:X.N.Nodup)(hi:X.N[i]?=some x)(hx:Loc X.env.scope x)(r:RelV v u)
  (h:∀s',Inv X pins (Y.set i (some v)) H s'->Q () s') (hf:X.fn x=true∨X.env.scope.names.lookup x=some .local:=by first |exact .inl rfl |exact .inr rfl |assumption):wpAny M A (storeName X.env x u) Q E s:=
 store_ok2 I hN hi hx r (λs' I' _=>h s' I') hf
theorem Inv.call' {s':Shared}{ch:List Addr}(I:Inv X pins Y H s)(ho:s'.os=s.os)(u:Un (frs X.stack) ch H H' s.heap s'.heap)(hok:HOk X.prog X.w H' s'.heap)(hg:AllBare s'.gens)
  (hch:∀b∈ch,(b∈X.ex∨X.s₀.heap.objs.size<=b)/\b≠X.env.locals/\(∀x c,X.env.cells.lookup x=some c->c≠b)/\∀p∈X.pn++pins,p.1≠b):Inv X pins Y H' s':=by
 obtain⟨h',g',d',t',o'⟩:=s'
 have e:o'=s.os:=ho
 subst e
 exact I.call (g':=g') (t':=t') (d':=d') u hok hg hch
end
abbrev XK:=Value->Option Addr->Hp->Prop
abbrev St:=List (Option V)
abbrev VK:=V->Hp->Prop
abbrev TE:=St->Hp->VK->Prop
abbrev TT:=St->Hp->(Bool->Hp->Prop)->Prop
abbrev TA:=St->Hp->(List V->Hp->Prop)->Prop
structure Ends where
 nx:St->Hp->Prop
 rt:VK
 bk:St->Hp->Prop:=λ_ _=>False
 ct:St->Hp->Prop:=λ_ _=>False
abbrev TS:=Ends->St->Hp->Prop
def EP (X:Cx)(pins:List (Addr×Obj))(Y:St)(Q:VK)(u:Value)(s':Shared):Prop:=∃v H',Inv X pins Y H' s'/\RelV v u/\Q v H'
def TP (X:Cx)(pins:List (Addr×Obj))(Y:St)(Q:Bool->Hp->Prop)(b:Bool)(s':Shared):Prop:=∃H',Inv X pins Y H' s'/\Q b H'
def AP (X:Cx)(pins:List (Addr×Obj))(Y:St)(Q:List V->Hp->Prop)(us:List Value)(s':Shared):Prop:=∃vs H',Inv X pins Y H' s'/\Vals vs us/\Q vs H'
def SP (X:Cx)(pins:List (Addr×Obj))(D:Ends)(f:Flow)(s':Shared):Prop:=
 match f with
 | .next=>∃Y' H',Inv X pins Y' H' s'/\D.nx Y' H'
 | .brk=>∃Y' H',Inv X pins Y' H' s'/\D.bk Y' H'
 | .cont=>∃Y' H',Inv X pins Y' H' s'/\D.ct Y' H'
 | .ret u=>∃v Y' H',Inv X pins Y' H' s'/\RelV v u/\D.rt v H'
def PE (X:Cx)(e:Expr)(t:TE):Prop:=
 ∀(pins:List (Addr×Obj)) (s:Shared) (Y:St) (H:Hp) (Q:VK),Inv X pins Y H s->t Y H Q->wpAny (model X.prog X.w) X.A (eval e X.env) (EP X pins Y Q) X.xe s
def PT (X:Cx)(e:Expr)(t:TT):Prop:=
 ∀(pins:List (Addr×Obj)) (s:Shared) (Y:St) (H:Hp) (Q:Bool->Hp->Prop),Inv X pins Y H s->t Y H Q->wpAny (model X.prog X.w) X.A (isTrue e X.env (eval e X.env)) (TP X pins Y Q) X.xe s
def PW (X:Cx)(e:Expr)(t:TT):Prop:=
 ∀(whole:Sem Value) (pins:List (Addr×Obj)) (s:Shared) (Y:St) (H:Hp) (Q:Bool->Hp->Prop),Inv X pins Y H s->t Y H Q->wpAny (model X.prog X.w) X.A (isTrue e X.env whole) (TP X pins Y Q) X.xe s
theorem PW.pt {X:Cx}{e:Expr}{t:TT}(h:PW X e t):PT X e t:=h _
def PA (X:Cx)(es:List Expr)(t:TA):Prop:=
 ∀(pos:Pos) (pins:List (Addr×Obj)) (s:Shared) (Y:St) (H:Hp) (Q:List V->Hp->Prop),Inv X pins Y H s->t Y H Q->wpAny (model X.prog X.w) X.A (spliced (backTo pos (starEach es X.env))) (AP X pins Y Q) X.xe s
def PS (X:Cx)(st:Stmt)(t:TS):Prop:=
 ∀(pins:List (Addr×Obj)) (s:Shared) (Y:St) (H:Hp) (D:Ends),Inv X pins Y H s->t D Y H->wpAny (model X.prog X.w) X.A (exec st X.env) (SP X pins D) X.xe s
def PSs (X:Cx)(st:List Stmt)(t:TS):Prop:=
 ∀(pins:List (Addr×Obj)) (s:Shared) (Y:St) (H:Hp) (D:Ends),Inv X pins Y H s->t D Y H->wpAny (model X.prog X.w) X.A (execs st X.env) (SP X pins D) X.xe s
theorem thn {α:Type}{t:Sem α}{Q Q':α->Shared->Prop}{M:Model}{A:Around}{E:Value->Shared->Prop}{s:Shared}(h:wpAny M A t Q E s)(hQ:∀a s,Q a s->Q' a s):wpAny M A t Q' E s:=wpAny_mono h hQ λ_ _ x=>x
section
variable {X:Cx}
def tVar (i:Nat):TE:=λY H Q=>∃v,Y[i]?=some (some v)/\Q v H
def tC (v:V):TE:=λ_ H Q=>Q v H
theorem pe_var {i:Nat}{x:Str}{pos:Pos}(hN:X.N[i]?=some x)(hv:Vis X.env.scope x)(hd:(x==("__debug__":Str))=false:=by decide)(hcd:(x==("__classdict__":Str))=false:=by decide):PE X (.Name x pos) (tVar i):=by
 intro pins s Y H Q I h
 obtain⟨v,e,h⟩:=h
 obtain⟨m,hn,hl⟩:=I.loc
 obtain⟨u,r,l⟩:=hl i x v hN e hv
 have fin:EP X pins Y Q u s:=⟨v,H,I,r,h⟩
 rcases l with⟨hk,hm⟩ | ⟨hk,c,hc,hcell⟩
 .exact wpAny_Name (wpAny_loadName_local I.ok.kind hk hn hm fin) hd
 .rcases hk with hk |hk
  .exact wpAny_Name (wpAny_loadName_cell I.ok.kind hk hc hcell fin) hd
  .exact wpAny_Name (wpAny_loadName_free I.ok.kind hk hc hcell fin hcd) hd
theorem pe_int {i j pos}:PE X (.Constant (.int i) j pos) (tC (.int i)):=λ_ _ _ H _ I h=>wpAny_Constant_int ⟨.int i,H,I.tok _,⟨_,rfl⟩,h⟩
theorem pe_bl {b j pos}:PE X (.Constant (.bool b) j pos) (tC (.bl b)):=λ_ _ _ H _ I h=>Constant_bool ⟨.bl b,H,I,rfl,h⟩
theorem pe_str {x j pos}:PE X (.Constant (.str x) j pos) (tC (.str x)):=λ_ _ _ H _ I h=>Calls.Constant_str ⟨.str x,H,I.tok _,⟨_,rfl⟩,h⟩
def Gl (X:Cx)(x:Str):Prop:=X.env.kindOf x=some .globalImplicit
theorem ld_glob {E:Value->Shared->Prop}{pins:List (Addr×Obj)}{s:Shared}{Y:St}{H:Hp}{x:Str}{u:Value}{pos:Pos}{Q:Value->Shared->Prop}(I:Inv X pins Y H s)(hg:Gl X x)(hm:X.mg x=some u)(h:Q u s)
  (hd:(x==("__debug__":Str))=false:=by decide):wpAny (model X.prog X.w) X.A (eval (.Name x pos) X.env) Q E s:=
 Calls.Name_function_global I.ok.kind hg (Calls.loadGlobal_global (by rw[I.ok.glob];exact I.mod.glob.keeps I.bk) hm h) hd
theorem ld_blt {E:Value->Shared->Prop}{pins:List (Addr×Obj)}{s:Shared}{Y:St}{H:Hp}{x:Str}{u:Value}{pos:Pos}{Q:Value->Shared->Prop}(I:Inv X pins Y H s)(hg:Gl X x)(hm:X.mg x=none)(hv:bootBuiltins x=some u)(h:Q u s)
  (hn:x ≠ "__name__":=by decide) (hd:(x==("__debug__":Str))=false:=by decide):wpAny (model X.prog X.w) X.A (eval (.Name x pos) X.env) Q E s:=by
 obtain⟨mb,h1,h2⟩:=I.mod.blt
 exact Calls.Name_function_global I.ok.kind hg (Calls.loadGlobal_builtin (by rw[I.ok.glob];exact I.mod.glob.keeps I.bk) hm (by rw[I.ok.blt];exact h1.keeps I.bk) ((h2 x hn).trans hv) h) hd
theorem pe_glob {x:Str}{v:V}{u:Value}{pos:Pos}(hg:Gl X x)(hm:X.mg x=some u)(r:RelV v u)(hd:(x==("__debug__":Str))=false:=by decide):PE X (.Name x pos) (tC v):=
 λ_ _ _ H _ I h=>ld_glob I hg hm ⟨v,H,I,r,h⟩ hd
theorem pe_bltn {x:Str}{v:V}{u:Value}{pos:Pos}(hg:Gl X x)(hm:X.mg x=none)(hv:bootBuiltins x=some u)(r:RelV v u)(hn:x ≠ "__name__":=by decide)(hd:(x==("__debug__":Str))=false:=by decide):PE X (.Name x pos) (tC v):=
 λ_ _ _ H _ I h=>ld_blt I hg hm hv ⟨v,H,I,r,h⟩ hn hd
variable {a b:Expr}{ta tb:TE}{pos:Pos}
def tB (t:TE):TT:=λY H Q=>t Y H λx H1=>∃c,x = .bl c/\Q c H1
theorem pt_val {e:Expr}{t:TE}(h:PE X e t)(he:∀whole,isTrue e X.env whole=(do let v <- whole;standAt e.pos;holding [v] (truthy v)):=by intro _;rfl):PT X e (tB t):=by
 intro pins s Y H Q I hw
 refine isTrue_plain (thn (h pins s Y H _ I hw) λv s1 ⟨x,H1,I1,r1,q1⟩=>?_) (he _)
 obtain⟨d,rfl,q⟩:=q1
 cases r1
 exact wpAny_truthy_bool ⟨H1,I1,q⟩
variable {tA tB':TT}{rest:List Expr}
def tAnd (t u:TT):TT:=λY H Q=>t Y H λc H1=>if c=true then u Y H1 Q else Q false H1
def tOr (t u:TT):TT:=λY H Q=>t Y H λc H1=>if c=true then Q true H1 else u Y H1 Q
def tNot (t:TT):TT:=λY H Q=>t Y H λc H1=>Q (!c) H1
theorem pw_and1 (ha:PT X a tA):PW X (.BoolOp .And [a] pos) tA:=by
 intro wh pins s Y H Q I h
 refine isTrue_and (thn (ha pins s Y H Q I h) λc s1 e=>?_)
 cases c with
 |true=>exact isTrue_and_nil e
 |false=>exact e
theorem pw_or1 (ha:PT X a tA):PW X (.BoolOp .Or [a] pos) tA:=by
 intro wh pins s Y H Q I h
 refine isTrue_or (thn (ha pins s Y H Q I h) λc s1 e=>?_)
 cases c with
 |false=>exact isTrue_or_nil e
 |true=>exact e
theorem pw_and (ha:PT X a tA)(hb:PW X (.BoolOp .And (b::rest) pos) tB'):PW X (.BoolOp .And (a::b::rest) pos) (tAnd tA tB'):=by
 intro wh pins s Y H Q I h
 refine isTrue_and (thn (ha pins s Y H _ I h) λc s1 ⟨H1,I1,q1⟩=>?_)
 cases c with
 |true=>exact hb wh pins s1 Y H1 Q I1 q1
 |false=>exact⟨H1,I1,q1⟩
theorem pw_or (ha:PT X a tA)(hb:PW X (.BoolOp .Or (b::rest) pos) tB'):PW X (.BoolOp .Or (a::b::rest) pos) (tOr tA tB'):=by
 intro wh pins s Y H Q I h
 refine isTrue_or (thn (ha pins s Y H _ I h) λc s1 ⟨H1,I1,q1⟩=>?_)
 cases c with
 |true=>exact⟨H1,I1,q1⟩
 |false=>exact hb wh pins s1 Y H1 Q I1 q1
theorem pt_not (ha:PT X a tA):PT X (.UnaryOp .Not a pos) (tNot tA):=by
 intro pins s Y H Q I h
 exact isTrue_not (ha pins s Y H (λc H1=>Q (!c) H1) I h)
def tAndV (ta tb:TE):TE:=λY H Q=>ta Y H λx H1=>∃c,x = .bl c/\if c=true then tb Y H1 Q else Q (.bl false) H1
def tNotV (ta:TE):TE:=λY H Q=>ta Y H λx H1=>∃c,x = .bl c/\Q (.bl (!c)) H1
theorem pe_one {op}{t:TE}(h:PE X a t):PE X (.BoolOp op [a] pos) t:=λpins s Y H Q I hw=>BoolOp_one (h pins s Y H Q I hw)
theorem pe_and (ha:PE X a ta)(hb:PE X (.BoolOp .And (b::rest) pos) tb):PE X (.BoolOp .And (a::b::rest) pos) (tAndV ta tb):=by
 intro pins s Y H Q I h
 refine BoolOp_and (thn (ha pins s Y H _ I h) λv s1 ⟨x,H1,I1,r1,q1⟩=>?_)
 obtain⟨c,rfl,q1⟩:=q1
 cases r1
 refine wpAny_truthy_bool ?_
 cases c with
 |true=>exact hb pins s1 Y H1 Q I1 q1
 |false=>exact⟨.bl false,H1,I1,rfl,q1⟩
theorem pe_not (ha:PE X a ta):PE X (.UnaryOp .Not a pos) (tNotV ta):=by
 intro pins s Y H Q I h
 refine UnaryOp_ (thn (ha pins s Y H _ I h) λv s1 ⟨x,H1,I1,r1,q1⟩=>?_)
 obtain⟨c,rfl,q1⟩:=q1
 cases r1
 exact not_of (wpAny_truthy_bool ⟨.bl (!c),H1,I1,rfl,q1⟩)
end
def SqL (K:Frag)(H:Hp)(a:Addr)(xs:List V):Prop:=
 Rd H a (.lst xs)∨
  ∃(o:Obj) (its:Array Value) (n:Nat),K.lookup a=some o/\o.cls = .type "list"/\o.dict=none/\o.data = .seq its n/\its.size<=sizeLine/\Vals xs its.toList
def SqT (K:Frag)(H:Hp)(a:Addr)(xs:List V):Prop:=
 Rd H a (.tup xs)∨
  ∃(o:Obj) (its:Array Value) (n:Nat),K.lookup a=some o/\o.cls = .type "tuple"/\o.data = .seq its n/\its.size<=sizeLine/\Vals xs its.toList
def absV:Value->Option V
 | .none=>some .non
 | .bool b=>some (.bl b)
 | .int i _=>some (.int i)
 | .str x _=>some (.str x)
 | .bytes b _=>some (.byt b)
 | .float b _=>some (.flt b)
 | .ref a=>some (.ref a)
 | .type n=>some (.ty n)
 |_=>none
theorem RelV.abs {x:V}{u:Value}(r:RelV x u):absV u=some x:=by
 cases x with
 |non=>cases r;rfl
 |bl _=>cases r;rfl
 |int _=>obtain⟨t,rfl⟩:=r;rfl
 |str _=>obtain⟨t,rfl⟩:=r;rfl
 |byt _=>obtain⟨t,rfl⟩:=r;rfl
 |flt _=>obtain⟨t,rfl⟩:=r;rfl
 |ref _=>cases r;rfl
 |ty _=>cases r;rfl
theorem RelV.inj {x y:V}{u:Value}(r:RelV x u)(q:RelV y u):x=y:=Option.some.inj (r.abs.symm.trans q.abs)
theorem Vals.inj:∀{xs ys:List V} {us:List Value},Vals xs us->Vals ys us->xs=ys
 |_,_,_,.nil,.nil=>rfl
 |_,_,_,.cons r t,.cons r' t'=>by rw[r.inj r',Vals.inj t t']
section
variable {X:Cx}{pins:List (Addr×Obj)}{Y:St}{H:Hp}{s:Shared}{a:Addr}{xs ys:List V}
theorem SqL.of {K:Frag}(h:H a=some (.lst xs)):SqL K H a xs:=.inl (.inl h)
theorem Inv.list (I:Inv X pins Y H s)(h:SqL X.K H a xs):∃its:List Value,Vals xs its/\PlainL s.heap a its.toArray/\xs.length<=sizeLine:=by
 rcases h with h | ⟨o,its,n,hk,hc,hd,hs,hz,r⟩
 .obtain ⟨z,its,n,r,e⟩:=h.ok I.hok
  exact⟨its,r,⟨_,n,e,rfl,rfl,rfl⟩,z⟩
 .refine ⟨its.toList,r,⟨o,n,I.kIn a o hk,hc,hd,by simpa using hs⟩,?_⟩
  have e:=r.length
  simp only[length_toList]at e
  omega
theorem Inv.tuple (I:Inv X pins Y H s)(h:SqT X.K H a xs):∃its:List Value,Vals xs its/\IsTup s.heap a its.toArray/\xs.length<=sizeLine:=by
 rcases h with h | ⟨o,its,n,hk,hc,hs,hz,r⟩
 .obtain ⟨z,its,r,p⟩:=h.ok I.hok
  exact⟨its,r,p,z⟩
 .refine ⟨its.toList,r,⟨o,I.kIn a o hk,hc,n,by simpa using hs⟩,?_⟩
  have e:=r.length
  simp only[length_toList]at e
  omega
theorem Inv.list_inj (I:Inv X pins Y H s)(h:SqL X.K H a xs)(h':SqL X.K H a ys):xs=ys:=by
 obtain⟨its,r,⟨o,n,e,_,_,d⟩,_⟩:=I.list h
 obtain⟨its',r',⟨o',n',e',_,_,d'⟩,_⟩:=I.list h'
 rw[e]at e';cases e'
 rw[d]at d'
 injection d' with d1 _
 have:its=its':=by simpa using congrArg Array.toList d1
 subst this
 exact r.inj r'
theorem Inv.tuple_inj (I:Inv X pins Y H s)(h:SqT X.K H a xs)(h':SqT X.K H a ys):xs=ys:=by
 obtain⟨its,r,⟨o,e,_,n,d⟩,_⟩:=I.tuple h
 obtain⟨its',r',⟨o',e',_,n',d'⟩,_⟩:=I.tuple h'
 rw[e]at e';cases e'
 rw[d]at d'
 injection d' with d1 _
 have:its=its':=by simpa using congrArg Array.toList d1
 subst this
 exact r.inj r'
end
abbrev Cx.wish (X:Cx)(E:Value->Shared->Prop):Cx:={X with xe:=E}
abbrev Cx.nox (X:Cx):Cx:=X.wish λ_ _=>False
theorem Cx.Ok.wish {X:Cx}(ok:X.Ok)(E:Value->Shared->Prop):(X.wish E).Ok:=
 ⟨ok.mod,ok.kind,ok.glob,ok.blt,ok.above,ok.inj,ok.has,ok.cab,ok.hd,ok.frames,ok.stk,ok.exf,ok.bs,ok.bsz,ok.noex,ok.exfs,ok.funs,ok.frf⟩
theorem Cx.Ok.unwish {X:Cx}{E:Value->Shared->Prop}(ok:(X.wish E).Ok):X.Ok:=
 ⟨ok.mod,ok.kind,ok.glob,ok.blt,ok.above,ok.inj,ok.has,ok.cab,ok.hd,ok.frames,ok.stk,ok.exf,ok.bs,ok.bsz,ok.noex,ok.exfs,ok.funs,ok.frf⟩
section
variable {X:Cx}{pins:List (Addr×Obj)}{Y:St}{H:Hp}{s:Shared}{E:Value->Shared->Prop}
theorem Inv.wish (I:Inv X pins Y H s)(E:Value->Shared->Prop):Inv (X.wish E) pins Y H s:=⟨I.ok.wish E,I.os,I.bare,I.base,I.loc,I.cell,I.free,I.freeC,I.pin,I.hok,I.len⟩
theorem Inv.unwish (I:Inv (X.wish E) pins Y H s):Inv X pins Y H s:=⟨I.ok.unwish,I.os,I.bare,I.base,I.loc,I.cell,I.free,I.freeC,I.pin,I.hok,I.len⟩
theorem SP.unwish {D:Ends}{f:Flow}{s':Shared}(h:SP (X.wish E) pins D f s'):SP X pins D f s':=by
 cases f with
 |next=>obtain⟨Y',H',I,q⟩:=h;exact⟨Y',H',I.unwish,q⟩
 |brk=>obtain⟨Y',H',I,q⟩:=h;exact⟨Y',H',I.unwish,q⟩
 |cont=>obtain⟨Y',H',I,q⟩:=h;exact⟨Y',H',I.unwish,q⟩
 |ret u=>obtain⟨v,Y',H',I,r,q⟩:=h;exact⟨v,Y',H',I.unwish,r,q⟩
theorem PSs.nox {st:List Stmt}{t:TS}(h:PSs X.nox st t):PSs X st t:=λpins s Y H D I hw=>
 wpAny_mono (h pins s Y H D (I.wish _) hw) (λ_ _ q=>q.unwish) λ_ _ z=>False.elim z
end
section
variable {X:Cx}{st:Stmt}{rest:List Stmt}{t u:TS}{e:Expr}{te:TE}{pos:Pos}
def tNext:TS:=λD Y H=>D.nx Y H
def tSeq (t u:TS):TS:=λD Y H=>t {D with nx:=u D} Y H
theorem pss_nil:PSs X [] tNext:=λ_ _ Y H _ I h=>wpAny_execs_nil ⟨Y,H,I,h⟩
theorem pss_cons (h1:PS X st t)(h2:PSs X rest u):PSs X (st::rest) (tSeq t u):=by
 intro pins s Y H D I h
 refine wpAny_execs_cons (thn (h1 pins s Y H {D with nx:=u D} I h) λf s1 q=>?_)
 cases f with
 |next=>
  obtain⟨Y',H',I',q⟩:=q
  exact h2 pins s1 Y' H' D I' q
 |ret v=>exact q
 |brk=>exact q
 |cont=>exact q
theorem pss_one (h1:PS X st t):PSs X [st] t:=by
 intro pins s Y H D I h
 refine wpAny_execs_cons (thn (h1 pins s Y H D I h) λf s1 q=>?_)
 cases f with
 |next=>exact wpAny_execs_nil q
 |ret v=>exact q
 |brk=>exact q
 |cont=>exact q
def tBreak:TS:=λD Y H=>D.bk Y H
theorem ps_break:PS X (.Break pos) tBreak:=λ_ _ Y H _ I h=>wpAny_Break ⟨Y,H,I,h⟩
theorem Inv.quiet {pins:List (Addr×Obj)}{Y:St}{H:Hp}{s:Shared}(I:Inv X pins Y H s):interactive X.env=false:=by simp[interactive,I.ok.kind]
def tDrop (te:TE):TS:=λD Y H=>te Y H λ_ H1=>D.nx Y H1
theorem ps_expr (he:PE X e te)(hs:swapsWith e none pos.line X.env=pure false:=by rfl):PS X (.Expr e pos) (tDrop te):=by
 intro pins s Y H D I h
 exact wpAny_Expr_any (thn (he pins s Y H _ I h) λv s1 ⟨x,H1,I1,r1,q1⟩=>⟨Y,H1,I1,q1⟩) I.quiet hs
def tRet (te:TE):TS:=λD Y H=>te Y H D.rt
theorem ps_ret (he:PE X e te):PS X (.Return (some e) pos) (tRet te):=by
 intro pins s Y H D I h
 exact wpAny_Return_some (thn (he pins s Y H _ I h) λv s1 ⟨x,H1,I1,r1,q1⟩=>⟨x,Y,H1,I1,r1,q1⟩)
def tIfS (c:TT)(t u:TS):TS:=λD Y H=>c Y H λb H1=>if b=true then t D Y H1 else u D Y H1
theorem ps_if {c:Expr}{a b:List Stmt}{tc:TT}(hc:PT X c tc)(ha:PSs X a t)(hb:PSs X b u):PS X (.If c a b pos) (tIfS tc t u):=by
 intro pins s Y H D I h
 refine wpAny_If (thn (hc pins s Y H _ I h) λd s1 ⟨H1,I1,q1⟩=>?_)
 cases d with
 |true=>exact ha pins s1 Y H1 D I1 q1
 |false=>exact hb pins s1 Y H1 D I1 q1
def tNever:TS:=λ_ _ _=>False
theorem ps_never:PS X st tNever:=λ_ _ _ _ _ _ h=>h.elim
end
abbrev TG:=V->St->Hp->(St->Hp->Prop)->Prop
abbrev TGs:=List V->St->Hp->(St->Hp->Prop)->Prop
def PG (X:Cx)(target:Expr)(t:TG):Prop:=
 ∀(pins:List (Addr×Obj)) (s:Shared) (Y:St) (H:Hp) (v:V) (u:Value) (Q:St->Hp->Prop),Inv X pins Y H s->RelV v u->t v Y H Q->
  wpAny (model X.prog X.w) X.A (assign target X.env u) (λ_ s'=>∃Y' H',Inv X pins Y' H' s'/\Q Y' H') X.xe s
def PGs (X:Cx)(ts:List Expr)(t:TGs):Prop:=
 ∀(pins:List (Addr×Obj)) (s:Shared) (Y:St) (H:Hp) (vs:List V) (us:List Value) (Q:St->Hp->Prop),Inv X pins Y H s->Vals vs us->t vs Y H Q->
  wpAny (model X.prog X.w) X.A (assignInOrder ((assignEach ts X.env).map (·.2)) us) (λ_ s'=>∃Y' H',Inv X pins Y' H' s'/\Q Y' H') X.xe s
section
variable {X:Cx}{pos:Pos}
def gName (i:Nat):TG:=λv Y H Q=>Q (Y.set i (some v)) H
theorem pg_name {i:Nat}{x:Str}(hN:X.N.Nodup)(hi:X.N[i]?=some x)(hx:Loc X.env.scope x)(hf:X.fn x=true∨X.env.scope.names.lookup x=some .local:=by first |exact .inl rfl |exact .inr rfl |assumption):PG X (.Name x pos) (gName i):=by
 intro pins s Y H v u Q I r h
 exact wpAny_assign_Name (store_ok I hN hi hx r (λs' I'=>⟨_,H,I',h⟩) hf)
def gNil:TGs:=λvs Y H Q=>vs=[]/\Q Y H
def gCons (t:TG)(u:TGs):TGs:=λvs Y H Q=>∃v r,vs=v::r/\t v Y H λY' H'=>u r Y' H' Q
theorem pgs_nil:PGs X [] gNil:=by
 intro pins s Y H vs us Q I r h
 obtain⟨e,h⟩:=h
 subst e
 cases r
 exact assignInOrder_nil ⟨Y,H,I,h⟩
theorem pgs_cons {e:Expr}{es:List Expr}{t:TG}{u:TGs}(h1:PG X e t)(h2:PGs X es u)
  (hs:(assignEach (e::es) X.env).map (·.2)=assign e X.env::(assignEach es X.env).map (·.2):=by rfl):PGs X (e::es) (gCons t u):=by
 intro pins s Y H vs us Q I r h
 obtain⟨v,vr,e1,h⟩:=h
 subst e1
 cases r with
 |cons r rr=>
  rw[hs]
  refine assignInOrder_cons (thn (h1 pins s Y H _ _ _ I r h) λ_ s1 ⟨Y1,H1,I1,q1⟩=>?_)
  exact h2 pins s1 Y1 H1 _ _ Q I1 rr q1
def gTup (K:Frag)(n:Nat)(t:TGs):TG:=λv Y H Q=>∃a xs,v = .ref a/\SqT K H a xs/\xs.length=n/\t xs Y H Q
theorem pg_tup {es:List Expr}{k:Nat}{t:TGs}{n:Nat}(hc:X.calm=true)(h:PGs X es t)
  (hn:(assignEach es X.env).length=n:=by rfl) (hst:(assignEach es X.env).findIdx? (·.1)=none:=by rfl):PG X (.Tuple es k pos) (gTup X.K n t):=by
 intro pins s Y H v u Q I r hw
 obtain⟨a,xs,e1,hq,hl,hw⟩:=hw
 subst e1
 cases r
 obtain⟨its,rv,ht,hz⟩:=I.tuple hq
 refine assign_Tuple_tuple (I.ok.hd hc) ht (by simp[hn,<- hl,rv.length]) hst λh' hx=>?_
 have I1:Inv X pins Y H {s with heap:=h'}:=I.kept (t':=s.toks) λb o e=>hx b o (ne_of_lt (lt_size e)) e
 exact h pins _ Y H xs _ Q I1 (by simpa using rv) hw
def tAsg (te:TE)(g:TG):TS:=λD Y H=>te Y H λx H1=>g x Y H1 D.nx
theorem ps_asg {tg e:Expr}{te:TE}{g:TG}(he:PE X e te)(hg:PG X tg g)(hs:swapsWithSole [tg] e pos.line X.env=pure false:=by rfl)(hw:swappedStores [tg] e X.env=pure none:=by rfl)
  (h1:(assignEach [tg] X.env).map (·.2)=[assign tg X.env]:=by rfl):PS X (.Assign [tg] e pos) (tAsg te g):=by
 intro pins s Y H D I h
 refine wpAny_Assign_stores (thn (he pins s Y H _ I h) λv s1 ⟨x,H1,I1,r1,q1⟩=>?_) hs hw
 rw[h1]
 exact thn (hg pins s1 Y H1 x v _ I1 r1 q1) λ_ s2 q=>q
theorem ps_set {i:Nat}{x:Str}{e:Expr}{te:TE}{pos':Pos}(hN:X.N.Nodup)(hi:X.N[i]?=some x)(hx:Loc X.env.scope x)(he:PE X e te)(hs:swapsWith e (some (.Name x pos')) pos.line X.env=pure false:=by rfl)(hf:X.fn x=true∨X.env.scope.names.lookup x=some .local:=by first |exact .inl rfl |exact .inr rfl |assumption):
  PS X (.Assign [.Name x pos'] e pos) (tAsg te (gName i)):=by
 intro pins s Y H D I h
 refine wpAny_Assign_Name (thn (he pins s Y H _ I h) λv s1 ⟨y,H1,I1,r1,q1⟩=>?_) hs
 exact store_ok I1 hN hi hx r1 (λs2 I2=>⟨_,H1,I2,q1⟩) hf
end
section
variable {X:Cx}{pos:Pos}
end
structure It where
 go:Nat->Hp->Prop
 yld:Nat->Hp->V->Hp->Prop
 stop:Nat->Hp->Prop
def FpOk (X:Cx)(pins:List (Addr×Obj))(H:Hp)(b:Addr):Prop:=
 H b=none/\b≠X.env.locals/\b∉X.fs/\(b∈X.ex∨X.s₀.heap.objs.size<=b)/\(∀x c,X.env.cells.lookup x=some c->c≠b)/\∀p∈X.pn++pins,p.1≠b
theorem Inv.fpOk {X:Cx}{pins:List (Addr×Obj)}{Y:St}{H H':Hp}{s:Shared}{b:Addr}(I:Inv X pins Y H s)(hb:s.heap.objs.size<=b)(hn:H' b=none):FpOk X pins H' b:=by
 refine⟨hn,ne_of_gt (lt_of_lt_of_le I.lt hb),I.nofs hb,.inr (le_trans I.sz hb),λx c e z=>?_,λp hp z=>?_⟩
 .obtain ⟨v,q⟩:=I.cell x c e
  exact absurd (lt_of_lt_of_le q.lt (by rw[z];exact hb)) (lt_irrefl _)
 .exact absurd (lt_of_lt_of_le (lt_size (I.pin p hp).1) (by rw[z];exact hb)) (lt_irrefl _)
structure Turn (P:Program) (w:World) (K:Frag) (tg:Expr) (J:It) (fp:List Addr) (it:Addr) (tn:Nat->Heap->Prop):Prop where
 mem:it∈fp
 obj:∀i h,tn i h->∀b∈fp,∃o,h.get? b=some o/\∀v,o.data≠.cell v
 keep:∀i h h',tn i h->(∀b∈fp,∀o,h.get? b=some o->h'.get? b=some o)->tn i h'
 item:∀(X:Cx),X.prog=P->X.w=w->X.K=K->X.calm=true->∀(i:Nat) (pins:List (Addr×Obj)) (s:Shared) (Y:St) (H:Hp) (E:Value->Shared->Prop),Inv X pins Y H s->(∀b∈fp,FpOk X pins H b)->tn i s.heap->J.go i H->
  wpAny (model P w) X.A (pyNext (.ref it)) (λr s1=>∃u,r=some u/\
   wpAny (model P w) X.A (letOwnedTupleGo tg (.ref it) u) (λ_ s2=>∃x H',Inv X pins Y H' s2/\RelV x u/\J.yld i H x H'/\tn (i+1) s2.heap/\∀b∈fp,H' b=none) E s1) E s
 done:∀(X:Cx),X.prog=P->X.w=w->X.K=K->X.calm=true->∀(i:Nat) (pins:List (Addr×Obj)) (s:Shared) (Y:St) (H:Hp) (E:Value->Shared->Prop),Inv X pins Y H s->(∀b∈fp,FpOk X pins H b)->tn i s.heap->J.stop i H->
  wpAny (model P w) X.A (pyNext (.ref it)) (λr s1=>r=none/\Inv X pins Y H s1) E s
 self:∀(A:Around) (i:Nat) (s:Shared) (Q:Value->Shared->Prop) (E:Value->Shared->Prop),tn i s.heap->Q (.ref it) s->wpAny (model P w) A (pyIter (.ref it)) Q E s
abbrev TI:=St->Hp->(It->Hp->Prop)->Prop
def PIE (X:Cx)(pins:List (Addr×Obj))(Y:St)(tg:Expr)(R:It->Hp->Prop)(itv:Value)(s2:Shared):Prop:=
 ∃(it:Addr) (fp:List Addr) (tn:Nat->Heap->Prop) (J:It) (H':Hp),itv = .ref it/\Inv X pins Y H' s2/\Turn X.prog X.w X.K tg J fp it tn/\tn 0 s2.heap/\(∀b∈fp,FpOk X pins H' b)/\R J H'
def PI (X:Cx)(tg iter:Expr)(wi:TI):Prop:=
 ∀(pins:List (Addr×Obj)) (s:Shared) (Y:St) (H:Hp) (R:It->Hp->Prop),Inv X pins Y H s->wi Y H R->
  wpAny (model X.prog X.w) X.A (eval iter X.env) (λv s1=>wpAny (model X.prog X.w) X.A (pyIter v) (PIE X pins Y tg R) X.xe s1) X.xe s
theorem go_of {M:Model}{A:Around}{E:Value->Shared->Prop}{s:Shared}{tg:Expr}{it:Addr}{u:Value}{o:Obj}{n:String}{vs:Array Value}{Q:Unit->Shared->Prop}(ho:s.heap.get? it=some o)(hc:o.cls = .type n)(hd:o.data = .fields vs)
  (hn:["enumerate","zip","dict_itemiterator","dict_reverseitemiterator","odict_iterator","itertools.zip_longest","itertools.pairwise"].contains n=false) (hQ:Q () s):wpAny M A (letOwnedTupleGo tg (.ref it) u) Q E s:=by
 unfold letOwnedTupleGo
 cases tg <;> first
  |exact wpAny_pure hQ
  | (cases u<;>first
    |exact wpAny_pure hQ
    | (refine wpAny_bind (wpAny_load ho ?_)
       rw[hc,hd]
       show wpAny M A (if (["enumerate","zip","dict_itemiterator","dict_reverseitemiterator","odict_iterator","itertools.zip_longest","itertools.pairwise"].contains n && vs[0]?==some (rawInt _))=true then _ else _) Q E s
       rw[if_neg (by intro h;rw[hn,Bool.false_and]at h;cases h)]
       exact wpAny_pure hQ))
def Itl (K:Frag)(a:Addr):It:=
 ⟨λi H=>∃xs x,SqL K H a xs/\xs[i]?=some x,λi H x H'=>H'=H/\∀xs,SqL K H a xs->xs[i]?=some x,λi H=>∃xs,SqL K H a xs/\xs.length<=i⟩
def Itt (K:Frag)(a:Addr):It:=
 ⟨λi H=>∃xs x,SqT K H a xs/\xs[i]?=some x,λi H x H'=>H'=H/\∀xs,SqT K H a xs->xs[i]?=some x,λi H=>∃xs,SqT K H a xs/\xs.length<=i⟩
def Itr (lo:Int)(n:Nat):It:=⟨λi _=>i<n,λi H x H'=>H'=H/\x = .int (lo+i),λi _=>n<=i⟩
theorem turn_list {P:Program}{w:World}{K:Frag}{tg:Expr}(a it:Addr):Turn P w K tg (Itl K a) [it] it (λi h=>h.IsListIter it a i) where
 mem:=by simp
 obj:=λi h st b hb=>by
  have e:b=it:=by simpa using hb
  subst e
  obtain⟨o,e,c,d⟩:=st
  exact⟨o,e,λv z=>by rw[d]at z;cases z⟩
 keep:=λi h h' st k=>st.at λo e=>k it (by simp) o e
 item:=by
  kj_on
  obtain⟨xs,x,hq,hx⟩:=hg
  obtain⟨its,rv,p,hz⟩:=I.list hq
  obtain⟨u,hu,ru⟩:=rv.get hx
  obtain⟨f0,f1,f2,f3,f4,f5⟩:=hf it (by simp)
  refine wpAny_pyNext_list_item st p.isList (x:=u) (by simpa using hu) λh' st' sb=>?_
  have I1:Inv X pins Y H {s with heap:=h'}:=I.turned (t':=s.toks) (λb o hb e=>(sb.2 b hb).trans e) f0 f1 f3 f4 f5
  obtain⟨o,e,c,d⟩:=id st'
  exact⟨u,rfl,go_of (s:={s with heap:=h'}) e c d (by decide) ⟨x,H,I1,ru,⟨rfl,λys hy=>by rw[I.list_inj hy hq];exact hx⟩,st',λb hb=>(hf b hb).1⟩⟩
 done:=by
  kj_on
  obtain⟨xs,hq,hx⟩:=hg
  obtain⟨its,rv,p,hz⟩:=I.list hq
  obtain⟨f0,f1,f2,f3,f4,f5⟩:=hf it (by simp)
  have hl:=rv.length
  exact wpAny_pyNext_list_end (I.ok.hd hc) st p.isList (by simp;omega) λh' eb=>⟨rfl,I.turned (t':=s.toks) (λb o hb e=>eb b o hb e) f0 f1 f3 f4 f5⟩
 self:=λ_ _ _ _ _ st h=>wpAny_pyIter_listiter st h
theorem turn_tuple {P:Program}{w:World}{K:Frag}{tg:Expr}(a it:Addr):Turn P w K tg (Itt K a) [it] it (λi h=>h.IsTupleIter it a i) where
 mem:=by simp
 obj:=λi h st b hb=>by
  have e:b=it:=by simpa using hb
  subst e
  obtain⟨o,e,c,d⟩:=st
  exact⟨o,e,λv z=>by rw[d]at z;cases z⟩
 keep:=λi h h' st k=>st.at λo e=>k it (by simp) o e
 item:=by
  kj_on
  obtain⟨xs,x,hq,hx⟩:=hg
  obtain⟨its,rv,p,hz⟩:=I.tuple hq
  obtain⟨u,hu,ru⟩:=rv.get hx
  obtain⟨f0,f1,f2,f3,f4,f5⟩:=hf it (by simp)
  refine wpAny_pyNext_tuple_item st (show s.heap.IsTuple a its.toArray from p) (x:=u) (by simpa using hu) λh' st' sb=>?_
  have I1:Inv X pins Y H {s with heap:=h'}:=I.turned (t':=s.toks) (λb o hb e=>(sb.2 b hb).trans e) f0 f1 f3 f4 f5
  obtain⟨o,e,c,d⟩:=id st'
  exact⟨u,rfl,go_of (s:={s with heap:=h'}) e c d (by decide) ⟨x,H,I1,ru,⟨rfl,λys hy=>by rw[I.tuple_inj hy hq];exact hx⟩,st',λb hb=>(hf b hb).1⟩⟩
 done:=by
  kj_on
  obtain⟨xs,hq,hx⟩:=hg
  obtain⟨its,rv,p,hz⟩:=I.tuple hq
  obtain⟨f0,f1,f2,f3,f4,f5⟩:=hf it (by simp)
  have hl:=rv.length
  exact wpAny_pyNext_tuple_end (I.ok.hd hc) st (show s.heap.IsTuple a its.toArray from p) (by simp;omega) λh' eb=>⟨rfl,I.turned (t':=s.toks) (λb o hb e=>eb b o hb e) f0 f1 f3 f4 f5⟩
 self:=λ_ _ _ _ _ st h=>wpAny_pyIter_tupleiter st h
theorem turn_range {P:Program}{w:World}{K:Frag}{tg:Expr}(it:Addr)(lo:Int)(n:Nat):Turn P w K tg (Itr lo n) [it] it (λi h=>IsRangeIter h it (lo+(i:Nat)*1) ((n:Int)-(i:Nat)) 1) where
 mem:=by simp
 obj := λi h st b hb=>by
  have e:b=it:=by simpa using hb
  subst e
  exact⟨_,st,λv z=>by
   have z':Data.fields _=Data.cell v:=z
   cases z'⟩
 keep:=λi h h' st k=>k it (by simp) _ st
 item:=by
  kj_on
  obtain⟨f0,f1,f2,f3,f4,f5⟩:=hf it (by simp)
  have W:=Walks.range (prog:=X.prog) (w:=X.w) (I.ok.hd hc) it lo 1 n
  refine W.item i s _ _ hg st λv h' tk hv st' kk=>?_
  obtain⟨t,rfl⟩:=hv
  have I1:Inv X pins Y H {s with heap:=h',toks:=tk}:=I.turned (λb o hb e=>kk b o (by simpa using hb) e) f0 f1 f3 f4 f5
  refine⟨_,rfl,go_of (s:={s with heap:=h',toks:=tk}) (n := "range_iterator") st' rfl rfl (by decide) ⟨.int (lo+i),H,I1,⟨t,?_⟩,⟨rfl,rfl⟩,st',λb hb=>(hf b hb).1⟩⟩
  rw[Int.mul_one]
 done:=by
  kj_on
  obtain⟨f0,f1,f2,f3,f4,f5⟩:=hf it (by simp)
  exact wpAny_pyNext_range_end (I.ok.hd hc) st (by have:n<=i:=hg;omega) λh' eb=>⟨rfl,I.turned (t':=s.toks) (λb o hb e=>eb b o hb e) f0 f1 f3 f4 f5⟩
 self:=λ_ _ _ _ _ st h=>wpAny_pyIter_rangeiter st h
section
variable {X:Cx}{tg:Expr}
def iList (K:Frag)(tl:TE):TI:=λY H R=>tl Y H λx H1=>∃a,x = .ref a/\(∃xs,SqL K H1 a xs)/\R (Itl K a) H1
def iTup (K:Frag)(tl:TE):TI:=λY H R=>tl Y H λx H1=>∃a,x = .ref a/\(∃xs,SqT K H1 a xs)/\R (Itt K a) H1
theorem pi_list {l:Expr}{tl:TE}(hl:PE X l tl):PI X tg l (iList X.K tl):=by
 intro pins s Y H R I h
 refine thn (hl pins s Y H _ I h) λv s1 ⟨x,H1,I1,r1,q1⟩=>?_
 obtain⟨a,e,⟨xs,hq⟩,q⟩:=q1
 subst e
 cases r1
 obtain⟨its,rv,p,hz⟩:=I1.list hq
 refine wpAny_pyIter_list p.isList ?_
 refine⟨s1.heap.objs.size,[s1.heap.objs.size],_,_,H1,rfl,I1.kept (t':=s1.toks) λb o e=>get?_push_of_some _ e,turn_list a _,⟨_,get?_push_size _ rfl,rfl,rfl⟩,λb hb=>?_,q⟩
 have e:b=s1.heap.objs.size:=by simpa using hb
 subst e
 exact I1.fpOk (Nat.le_refl _) (I1.hok.fresh (Nat.le_refl _))
theorem pi_tup {l:Expr}{tl:TE}(hl:PE X l tl):PI X tg l (iTup X.K tl):=by
 intro pins s Y H R I h
 refine thn (hl pins s Y H _ I h) λv s1 ⟨x,H1,I1,r1,q1⟩=>?_
 obtain⟨a,e,⟨xs,hq⟩,q⟩:=q1
 subst e
 cases r1
 obtain⟨its,rv,p,hz⟩:=I1.tuple hq
 refine wpAny_pyIter_tuple (show s1.heap.IsTuple a its.toArray from p) ?_
 refine⟨s1.heap.objs.size,[s1.heap.objs.size],_,_,H1,rfl,I1.kept (t':=s1.toks) λb o e=>get?_push_of_some _ e,turn_tuple a _,⟨_,get?_push_size _ rfl,rfl,rfl⟩,λb hb=>?_,q⟩
 have e:b=s1.heap.objs.size:=by simpa using hb
 subst e
 exact I1.fpOk (Nat.le_refl _) (I1.hok.fresh (Nat.le_refl _))
theorem range_it {pins:List (Addr×Obj)}{Y:St}{H:Hp}{s:Shared}{R:It->Hp->Prop}{E:Value->Shared->Prop}{lo hi:Int}{t u v:Tok}{tk:Nat}(I:Inv X pins Y H s)(h1 : -(2^62)<=lo)(h2:lo<2^62)(h3 : -(2^62)<=hi)(h4:hi<2^62)
  (q:R (Itr lo (hi-lo).toNat) H):wpAny (model X.prog X.w) X.A (pyIter (.ref s.heap.objs.size)) (PIE X pins Y tg R) E {s with heap:=s.heap.push {cls:=.type "range",data:=.fields #[.int lo t,.int hi u,.int 1 v]},toks:=tk}:=by
 refine wpAny_pyIter_range (IsRange.new ..) (small_one h1 h2 h3 h4) ?_
 have I1:Inv X pins Y H {s with heap:=s.heap.push {cls:=.type "range",data:=.fields #[.int lo t,.int hi u,.int 1 v]},toks:=tk}:=I.kept λb o e=>get?_push_of_some _ e
 refine⟨(s.heap.push {cls:=.type "range",data:=.fields #[.int lo t,.int hi u,.int 1 v]}).objs.size,[(s.heap.push {cls:=.type "range",data:=.fields #[.int lo t,.int hi u,.int 1 v]}).objs.size],_,_,H,rfl,
  I1.kept (t':=tk) λb o e=>get?_push_of_some _ e,turn_range _ lo (hi-lo).toNat,?_,λb hb=>?_,q⟩
 .have e1:lo+((0:Nat):Int)*1=lo:=by simp
  have e2:(((hi-lo).toNat:Nat):Int)-((0:Nat):Int)=Builtin.Range.rangeSize lo hi 1:=by rw[rangeSize_one];split<;>omega
  show IsRangeIter _ _ (lo+((0:Nat):Int)*1) ((((hi-lo).toNat:Nat):Int)-((0:Nat):Int)) 1
  rw[e1,e2]
  exact get?_push_size _ rfl
 .have e:b=(s.heap.push {cls:=.type "range",data:=.fields #[.int lo t,.int hi u,.int 1 v]}).objs.size:=by simpa using hb
  subst e
  exact I1.fpOk (Nat.le_refl _) (I1.hok.fresh (Nat.le_refl _))
def iRng1 (ta:TA):TI:=λY H R=>ta Y H λvs H1=>∃j:Int,vs=[.int j]/\-(2^62)<=j/\j<2^62/\R (Itr 0 j.toNat) H1
theorem pi_range1 {a:Expr}{ta:TA}{p pos:Pos}(hg:Gl X "range")(hm:X.mg "range"=none)(ha:PA X [a] ta)(hs:starEach [a] X.env=[(false,eval a X.env)]:=by rfl):PI X tg (.Call (.Name "range" p) [a] [] pos) (iRng1 ta):=by
 intro pins s Y H R I h
 refine Call_ (ld_blt I hg hm boot_range (PyProof.Rows.callWith_type1 (thn (ha pos pins s Y H _ I h) λus s1 ⟨vs,H1,I1,r1,q1⟩=>?_) hs rfl))
 obtain⟨j,e,q1,q2,q⟩:=q1
 subst e
 cases r1 with
 |cons r rr=>
  cases rr
  obtain⟨t,rfl⟩:=r
  exact call_range_1 (range_it I1 (by omega) (by omega) q1 q2 (by simpa using q))
def tFor (wi:TI)(g:TG)(tb:TS):TS:=λD Y H=>wi Y H λJ H1=>∃W:Nat->Nat->St->Hp->Prop,(∃m,W 0 m Y H1)/\∀i m Y H,W i m Y H->
 (J.stop i H/\D.nx Y H)∨(J.go i H/\∃N:St->Hp->Prop,(∀Y' H',N Y' H'->∃m',m'<m/\W (i+1) m' Y' H')/\∀x H',J.yld i H x H'->g x Y H' λY2 H2=>tb {D with nx:=N,ct:=N,bk:=D.nx} Y2 H2)
def pinsAt (fp:List Addr)(h:Heap):List (Addr×Obj):=fp.filterMap λb=>(h.get? b).map λo=>(b,o)
theorem mem_pinsAt {fp:List Addr}{h:Heap}{b:Addr}{o:Obj}(hb:b∈fp)(e:h.get? b=some o):(b,o)∈pinsAt fp h:=mem_filterMap.mpr ⟨b,hb,by rw[e];rfl⟩
theorem of_pinsAt {fp:List Addr}{h:Heap}{p:Addr×Obj}(hp:p∈pinsAt fp h):p.1∈fp/\h.get? p.1=some p.2:=by
 obtain⟨b,hb,e⟩:=mem_filterMap.mp hp
 cases q:h.get? b with
 |none=>rw[q]at e;cases e
 |some o=>
  rw[q]at e
  have e':(b,o)=p:=Option.some.inj e
  subst e'
  exact⟨hb,q⟩
theorem Inv.pinned {pins:List (Addr×Obj)}{Y:St}{H:Hp}{s:Shared}{fp:List Addr}(I:Inv X pins Y H s)(hf:∀b∈fp,FpOk X pins H b)(ho:∀b∈fp,∃o,s.heap.get? b=some o/\∀v,o.data≠.cell v):Inv X (pins++pinsAt fp s.heap) Y H s:=
 I.pins_of λp hp=>(mem_append.mp hp).elim (λz=>I.pin p (mem_append_right _ z)) λz=>by
  obtain⟨hb,e⟩:=of_pinsAt z
  obtain⟨f0,f1,f2,_⟩:=hf p.1 hb
  obtain⟨o,e',d⟩:=ho p.1 hb
  rw[e]at e';cases e'
  exact⟨e,f0,f1,f2,d⟩
theorem Inv.unpinned {pins pl:List (Addr×Obj)}{Y:St}{H:Hp}{s:Shared}(I:Inv X (pins++pl) Y H s):Inv X pins Y H s:=I.pins_of λp hp=>I.pin p (mem_append_right _ (mem_append_left _ hp))
theorem ps_for {iter:Expr}{body:List Stmt}{wi:TI}{g:TG}{tb:TS}{pos:Pos}(hp:PassesOwn (model X.prog X.w) X.A X.env X.xe)(hc:X.calm=true)(hi:PI X tg iter wi)(hg:PG X tg g)(hb:PSs X body tb)
  (hs:∀x,foldedSetIterable iter X.env x=pure x:=by intro _;rfl):PS X (.For tg iter body [] pos) (tFor wi g tb):=by
 intro pins s Y H D I h
 refine wpAny_For (thn (hi pins s Y H _ I h) λv s1 h1=>thn h1 λitv s2 h2=>?_) hs
 obtain⟨it,fp,tn,J,H2,e,I2,T,st2,f2,W,⟨m0,w0⟩,turn⟩:=h2
 subst e
 -- what stays true of the iterator's objects through the loop
 have stat:∀{H':Hp},(∀b∈fp,H' b=none)->∀b∈fp,FpOk X pins H' b:=λhn b hb=>⟨hn b hb,(f2 b hb).2⟩
 refine codeAny_forLoop_any (λn s'=>∃i Y' H',Inv X pins Y' H' s'/\tn i s'.heap/\(∀b∈fp,H' b=none)/\W i n Y' H') ?_ m0 ⟨0,Y,H2,I2,st2,λb hb=>(f2 b hb).1,w0⟩
 rintro n s3 ⟨i,Y3,H3,I3,st3,fr3,w3⟩
 rcases turn i n Y3 H3 w3 with⟨stop,qn⟩ | ⟨go,N,hN,step⟩
 .refine wpAny_passesOwn hp (thn (T.done X rfl rfl rfl hc i pins s3 Y3 H3 X.xe I3 (stat fr3) st3 stop) λr s4 ⟨hr,I4⟩=>?_)
  subst hr
  exact wpAny_execs_nil ⟨Y3,H3,I4,qn⟩
 .refine wpAny_passesOwn hp (thn (T.item X rfl rfl rfl hc i pins s3 Y3 H3 X.xe I3 (stat fr3) st3 go) λr s4 ⟨u,hr,h4⟩=>?_)
  subst hr
  refine wpAny_passesOwn hp (thn h4 λ_ s5 ⟨x,H5,I5,r5,y5,st5,fr5⟩=>?_)
  have I5':=I5.pinned (stat fr5) (T.obj _ _ st5)
  refine wpAny_passesOwn hp (thn (hg _ s5 Y3 H5 x u _ I5' r5 (step x H5 y5)) λ_ s6 ⟨Y6,H6,I6,q6⟩=>?_)
  refine wpAny_passesOwn hp (thn (hb _ s6 Y6 H6 _ I6 q6) λf s7 q7=>?_)
  have again:∀{Y7:St} {H7:Hp},Inv X (pins++pinsAt fp s5.heap) Y7 H7 s7->N Y7 H7->∃m,m<n/\∃i Y' H',Inv X pins Y' H' s7/\tn i s7.heap/\(∀b∈fp,H' b=none)/\W i m Y' H':=λ{Y7 H7} I7 n7=>by
   obtain⟨m',hm,w7⟩:=hN Y7 H7 n7
   refine⟨m',hm,i+1,Y7,H7,I7.unpinned,T.keep _ _ _ st5 λb hb o e=>(I7.pin (b,o) (mem_append_right _ (mem_append_right _ (mem_pinsAt hb e)))).1,λb hb=>?_,w7⟩
   obtain⟨o,e,d⟩:=T.obj _ _ st5 b hb
   exact (I7.pin (b,o) (mem_append_right _ (mem_append_right _ (mem_pinsAt hb e)))).2.1
  cases f with
  |next=>obtain⟨Y7,H7,I7,n7⟩:=q7;exact again I7 n7
  |cont=>obtain⟨Y7,H7,I7,n7⟩:=q7;exact again I7 n7
  |brk=>obtain⟨Y7,H7,I7,q7⟩:=q7;exact⟨Y7,H7,I7.unpinned,q7⟩
  |ret v=>obtain⟨x7,Y7,H7,I7,r7,q7⟩:=q7;exact⟨x7,Y7,H7,I7.unpinned,r7,q7⟩
end
abbrev R2:=V->V->Hp->VK->Prop
def OpR (X:Cx)(f:Value->Value->Sem Value)(r:R2):Prop:=
 ∀(pins:List (Addr×Obj)) (s:Shared) (Y:St) (H:Hp) (x y:V) (v u:Value) (Q:VK),Inv X pins Y H s->RelV x v->RelV y u->r x y H Q->
  wpAny (model X.prog X.w) X.A (f v u) (EP X pins Y Q) X.xe s
def UnR (X:Cx)(f:Value->Sem Value)(r:V->Hp->VK->Prop):Prop:=
 ∀(pins:List (Addr×Obj)) (s:Shared) (Y:St) (H:Hp) (x:V) (v:Value) (Q:VK),Inv X pins Y H s->RelV x v->r x H Q->
  wpAny (model X.prog X.w) X.A (f v) (EP X pins Y Q) X.xe s
def CallR (X:Cx)(f:Value)(r:List V->Hp->VK->Prop):Prop:=
 ∀(pins:List (Addr×Obj)) (s:Shared) (Y:St) (H:Hp) (xs:List V) (us:List Value) (Q:VK),Inv X pins Y H s->Vals xs us->r xs H Q->
  wpAny (model X.prog X.w) X.A (call f us) (EP X pins Y Q) X.xe s
def TruR (X:Cx)(r:V->Hp->(Bool->Hp->Prop)->Prop):Prop:=
 ∀(pins:List (Addr×Obj)) (s:Shared) (Y:St) (H:Hp) (x:V) (v:Value) (Q:Bool->Hp->Prop),Inv X pins Y H s->RelV x v->r x H Q->
  wpAny (model X.prog X.w) X.A (truthy v) (TP X pins Y Q) X.xe s
def tOp (r:R2)(ta tb:TE):TE:=λY H Q=>ta Y H λx H1=>tb Y H1 λy H2=>r x y H2 Q
def tUn (r:V->Hp->VK->Prop)(ta:TE):TE:=λY H Q=>ta Y H λx H1=>r x H1 Q
def rI (C:Int->Int->Prop)(g:Int->Int->V):R2:=λx y H Q=>∃i j,x = .int i/\y = .int j/\C i j/\Q (g i j) H
def rI0 (g:Int->Int->V):R2:=λx y H Q=>∃i j,x = .int i/\y = .int j/\Q (g i j) H
def rU (g:Int->V):V->Hp->VK->Prop:=λx H Q=>∃i,x = .int i/\Q (g i) H
section
variable {X:Cx}{a b c:Expr}{ta tb tc:TE}{pos:Pos}
theorem binT (ha:PE X a ta)(hb:PE X b tb){pins:List (Addr×Obj)}{s:Shared}{Y:St}{H:Hp}{R:V->V->Hp->Prop}(I:Inv X pins Y H s)
  (h:ta Y H λx H1=>tb Y H1 λy H2=>R x y H2) {Q:Value->Shared->Prop} {f:Value->Value->Sem Value}
  (hf:∀v u s2 x y H2,Inv X pins Y H2 s2->RelV x v->RelV y u->R x y H2->wpAny (model X.prog X.w) X.A (f v u) Q X.xe s2):
  wpAny (model X.prog X.w) X.A (eval a X.env) (λv s₁=>wpAny (model X.prog X.w) X.A (eval b X.env) (λu s₂=>wpAny (model X.prog X.w) X.A (f v u) Q X.xe s₂) X.xe s₁) X.xe s:=by
 refine thn (ha pins s Y H _ I h) λv s1 ⟨x,H1,I1,r1,q1⟩=>?_
 refine thn (hb pins s1 Y H1 _ I1 q1) λu s2 ⟨y,H2,I2,r2,q2⟩=>?_
 exact hf v u s2 x y H2 I2 r1 r2 q2
theorem pe_op {op:Operator}{r:R2}(ho:OpR X (binaryOp op) r)(ha:PE X a ta)(hb:PE X b tb):PE X (.BinOp a op b pos) (tOp r ta tb):=by
 intro pins s Y H Q I h
 exact wpAny_BinOp (binT ha hb I h λv u s2 x y H2 I2 rx ry q=>ho pins s2 Y H2 x y v u Q I2 rx ry q)
theorem pe_un {op:UnaryOp}{r:V->Hp->VK->Prop}(ho:UnR X (unaryOp op) r)(ha:PE X a ta):PE X (.UnaryOp op a pos) (tUn r ta):=by
 intro pins s Y H Q I h
 exact UnaryOp_ (thn (ha pins s Y H _ I h) λv s1 ⟨x,H1,I1,r1,q1⟩=>ho pins s1 Y H1 x v Q I1 r1 q1)
theorem opI {f:Value->Value->Sem Value}{C:Int->Int->Prop}{g:Int->Int->Int}
  (rule:∀(i j:Int) (t u:Tok) (s:Shared) (Q:Value->Shared->Prop) (E:Value->Shared->Prop),C i j->Q (.int (g i j) s.toks) {s with toks:=s.toks+1}->wpAny (model X.prog X.w) X.A (f (.int i t) (.int j u)) Q E s):
  OpR X f (rI C λi j=>.int (g i j)):=by
 intro pins s Y H x y v u Q I rx ry h
 obtain⟨i,j,rfl,rfl,hc,q⟩:=h
 obtain⟨t,rfl⟩:=rx
 obtain⟨t',rfl⟩:=ry
 exact rule i j t t' s _ _ hc ⟨.int (g i j),H,I.tok _,⟨_,rfl⟩,q⟩
theorem opI0 {f:Value->Value->Sem Value}{g:Int->Int->Int}
  (rule:∀(i j:Int) (t u:Tok) (s:Shared) (Q:Value->Shared->Prop) (E:Value->Shared->Prop),Q (.int (g i j) s.toks) {s with toks:=s.toks+1}->wpAny (model X.prog X.w) X.A (f (.int i t) (.int j u)) Q E s):
  OpR X f (rI0 λi j=>.int (g i j)):=by
 intro pins s Y H x y v u Q I rx ry h
 obtain⟨i,j,rfl,rfl,q⟩:=h
 obtain⟨t,rfl⟩:=rx
 obtain⟨t',rfl⟩:=ry
 exact rule i j t t' s _ _ ⟨.int (g i j),H,I.tok _,⟨_,rfl⟩,q⟩
theorem opB0 {f:Value->Value->Sem Value}{g:Int->Int->Bool}
  (rule:∀(i j:Int) (t u:Tok) (s:Shared) (Q:Value->Shared->Prop) (E:Value->Shared->Prop),Q (.bool (g i j)) s->wpAny (model X.prog X.w) X.A (f (.int i t) (.int j u)) Q E s):
  OpR X f (rI0 λi j=>.bl (g i j)):=by
 intro pins s Y H x y v u Q I rx ry h
 obtain⟨i,j,rfl,rfl,q⟩:=h
 obtain⟨t,rfl⟩:=rx
 obtain⟨t',rfl⟩:=ry
 exact rule i j t t' s _ _ ⟨.bl (g i j),H,I,rfl,q⟩
def CDiv (i j:Int):Prop:=0<j/\j<1073741824
def CPow (i j:Int):Prop:=0<=j/\j<=1000000/\i.natAbs<2^64
def CMul (i j:Int):Prop:=(-(2^64)<i/\i<2^64)∨(-(2^64)<j/\j<2^64)
theorem CMul.ok {i j:Int}(h:CMul i j):IntMulOk i j:=by
 rcases h with⟨h1,h2⟩ | ⟨h1,h2⟩
 .exact .of_left (intBits_le_64 h1 h2)
 .exact .of_right (intBits_le_64 h1 h2)
theorem op_add:OpR X (binaryOp .Add) (rI0 λi j=>.int (i+j)):=opI0 λ_ _ _ _ _ _ _ q=>add_int q
theorem op_sub:OpR X (binaryOp .Sub) (rI0 λi j=>.int (i-j)):=opI0 λ_ _ _ _ _ _ _ q=>sub_int q
theorem op_mul:OpR X (binaryOp .Mult) (rI CMul λi j=>.int (i*j)):=opI λ_ _ _ _ _ _ _ hc q=>mul_int q hc.ok
theorem op_fdiv:OpR X (binaryOp .FloorDiv) (rI CDiv λi j=>.int (i / j)):=opI λi j _ _ _ _ _ hc q=>by
 have h1:(0:Int)<j:=hc.1
 have h2:j<1073741824:=hc.2
 exact floordiv_int (by omega) (by rw[Int.fdiv_eq_ediv_of_nonneg i (by omega)];exact q) (.inl (PyProof.noPylong_small (by omega)))
theorem op_mod:OpR X (binaryOp .Mod) (rI (λ_ j=>0<j) λi j=>.int (i%j)):=opI λi j _ _ _ _ _ hc q=>by
 have h1:(0:Int)<j:=hc
 exact mod_int' (by omega) (by rw[Int.fmod_eq_emod_of_nonneg i (by omega)];exact q)
theorem op_shl:OpR X (binaryOp .LShift) (rI CPow λi j=>.int (i*2^j.toNat)):=opI λ_ _ _ _ _ _ _ hc q=>lshift_int_small hc.1 hc.2.1 hc.2.2 q
theorem unI {f:Value->Sem Value}{g:Int->Int}
  (rule:∀(i:Int) (t:Tok) (s:Shared) (Q:Value->Shared->Prop) (E:Value->Shared->Prop),Q (.int (g i) s.toks) {s with toks:=s.toks+1}->wpAny (model X.prog X.w) X.A (f (.int i t)) Q E s):
  UnR X f (rU λi=>.int (g i)):=by
 intro pins s Y H x v Q I rx h
 obtain⟨i,rfl,q⟩:=h
 obtain⟨t,rfl⟩:=rx
 exact rule i t s _ _ ⟨.int (g i),H,I.tok _,⟨_,rfl⟩,q⟩
theorem un_neg:UnR X (unaryOp .USub) (rU λi=>.int (-i)):=unI λ_ _ _ _ _ q=>neg_int q
end
def scal:V->V->Bool
 | .non,.non=>true | .non,.int _=>true | .int _,.non=>true | .non,.bl _=>true | .bl _,.non=>true | .non,.str _=>true | .str _,.non=>true
 | .int _,.int _=>true | .bl _,.bl _=>true | .str _,.str _=>true | .byt _,.byt _=>true
 | .int _,.str _=>true | .str _,.int _=>true | .bl _,.str _=>true | .str _,.bl _=>true
 |_,_=>false
def rEq:R2:=λx y H Q=>scal x y=true/\Q (.bl (decide (x=y))) H
def rNe:R2:=λx y H Q=>scal x y=true/\Q (.bl (!decide (x=y))) H
theorem dec_int {i j:Int}:decide (V.int i=V.int j)=(i==j):=by
 rw[Bool.eq_iff_iff]
 simp
theorem dec_bl {i j:Bool}:decide (V.bl i=V.bl j)=(i==j):=by
 rw[Bool.eq_iff_iff]
 simp
theorem dec_str {i j:Str}:decide (V.str i=V.str j)=(i==j):=by
 rw[Bool.eq_iff_iff]
 simp
theorem dec_byt {i j:Array UInt8}:decide (V.byt i=V.byt j)=(i.toList==j.toList):=by
 rw[Bool.eq_iff_iff]
 cases i
 cases j
 simp
section
variable {X:Cx}{a b c:Expr}{ta tb tc:TE}{pos:Pos}
theorem fin_bl {pins:List (Addr×Obj)}{Y:St}{H:Hp}{s:Shared}{Q:VK}{k k':Bool}(I:Inv X pins Y H s)(q:Q (.bl k) H)(e:k=k'):EP X pins Y Q (.bool k') s:=by
 subst e
 exact⟨.bl k,H,I,rfl,q⟩
theorem op_eq:OpR X (compareOp .Eq) rEq:=by
 intro pins s Y H x y v u Q I rx ry h
 obtain⟨hs,q⟩:=h
 cases x with
 |non=>
  cases rx
  cases y with
  |non=>cases ry;exact PySem.EqNone.eq_none_none (fin_bl I q (by simp))
  |bl j=>cases ry;exact PySem.EqNone.eq_none_bool (fin_bl I q (by simp))
  |int j=>obtain⟨t',rfl⟩:=ry;exact PySem.EqNone.eq_none_int (fin_bl I q (by simp))
  |str j=>obtain⟨t',rfl⟩:=ry;exact PySem.EqNone.eq_none_str (fin_bl I q (by simp))
  |_=>exact absurd (show false=true from hs) Bool.false_ne_true
 |bl i=>
  cases rx
  cases y with
  |non=>cases ry;exact PySem.EqNone.eq_bool_none (fin_bl I q (by simp))
  |bl j=>cases ry;exact eq_bool (fin_bl I q dec_bl)
  |str j=>obtain⟨t',rfl⟩:=ry;exact PySem.EqMixed.eq_bool_str (fin_bl I q (by simp))
  |_=>exact absurd (show false=true from hs) Bool.false_ne_true
 |int i=>
  obtain⟨t,rfl⟩:=rx
  cases y with
  |non=>cases ry;exact PySem.EqNone.eq_int_none (fin_bl I q (by simp))
  |int j=>obtain⟨t',rfl⟩:=ry;exact eq_int (fin_bl I q dec_int)
  |str j=>obtain⟨t',rfl⟩:=ry;exact PySem.EqMixed.eq_int_str (fin_bl I q (by simp))
  |_=>exact absurd (show false=true from hs) Bool.false_ne_true
 |str i=>
  obtain⟨t,rfl⟩:=rx
  cases y with
  |non=>cases ry;exact PySem.EqNone.eq_str_none (fin_bl I q (by simp))
  |bl j=>cases ry;exact PySem.EqMixed.eq_str_bool (fin_bl I q (by simp))
  |int j=>obtain⟨t',rfl⟩:=ry;exact PySem.EqMixed.eq_str_int (fin_bl I q (by simp))
  |str j=>obtain⟨t',rfl⟩:=ry;exact eq_str (fin_bl I q dec_str)
  |_=>exact absurd (show false=true from hs) Bool.false_ne_true
 |byt i=>
  obtain⟨t,rfl⟩:=rx
  cases y with
  |byt j=>obtain⟨t',rfl⟩:=ry;exact PySem.W.eq_bytes (fin_bl I q dec_byt)
  |_=>exact absurd (show false=true from hs) Bool.false_ne_true
 |_=>cases y<;>exact absurd (show false=true from hs) Bool.false_ne_true
theorem op_ne:OpR X (compareOp .NotEq) rNe:=by
 intro pins s Y H x y v u Q I rx ry h
 obtain⟨hs,q⟩:=h
 cases x with
 |non=>
  cases rx
  cases y with
  |non=>cases ry;exact PySem.EqNone.ne_none_none (fin_bl I q (by simp))
  |bl j=>cases ry;exact PySem.EqNone.ne_none_bool (fin_bl I q (by simp))
  |int j=>obtain⟨t',rfl⟩:=ry;exact PySem.EqNone.ne_none_int (fin_bl I q (by simp))
  |str j=>obtain⟨t',rfl⟩:=ry;exact PySem.EqNone.ne_none_str (fin_bl I q (by simp))
  |_=>exact absurd (show false=true from hs) Bool.false_ne_true
 |bl i=>
  cases rx
  cases y with
  |non=>cases ry;exact PySem.EqNone.ne_bool_none (fin_bl I q (by simp))
  |bl j=>cases ry;exact ne_bool (fin_bl I q (congrArg not dec_bl))
  |str j=>obtain⟨t',rfl⟩:=ry;exact PySem.EqMixed.ne_bool_str (fin_bl I q (by simp))
  |_=>exact absurd (show false=true from hs) Bool.false_ne_true
 |int i=>
  obtain⟨t,rfl⟩:=rx
  cases y with
  |non=>cases ry;exact PySem.EqNone.ne_int_none (fin_bl I q (by simp))
  |int j=>obtain⟨t',rfl⟩:=ry;exact ne_int (fin_bl I q (congrArg not dec_int))
  |str j=>obtain⟨t',rfl⟩:=ry;exact PySem.EqMixed.ne_int_str (fin_bl I q (by simp))
  |_=>exact absurd (show false=true from hs) Bool.false_ne_true
 |str i=>
  obtain⟨t,rfl⟩:=rx
  cases y with
  |non=>cases ry;exact PySem.EqNone.ne_str_none (fin_bl I q (by simp))
  |bl j=>cases ry;exact PySem.EqMixed.ne_str_bool (fin_bl I q (by simp))
  |int j=>obtain⟨t',rfl⟩:=ry;exact PySem.EqMixed.ne_str_int (fin_bl I q (by simp))
  |str j=>obtain⟨t',rfl⟩:=ry;exact ne_str (fin_bl I q (congrArg not dec_str))
  |_=>exact absurd (show false=true from hs) Bool.false_ne_true
 |byt i=>
  obtain⟨t,rfl⟩:=rx
  cases y with
  |byt j=>obtain⟨t',rfl⟩:=ry;exact PySem.W.ne_bytes (fin_bl I q (congrArg not dec_byt))
  |_=>exact absurd (show false=true from hs) Bool.false_ne_true
 |_=>cases y<;>exact absurd (show false=true from hs) Bool.false_ne_true
theorem op_lt:OpR X (compareOp .Lt) (rI0 λi j=>.bl (decide (i<j))):=opB0 λ_ _ _ _ _ _ _ q=>lt_int q
theorem op_le:OpR X (compareOp .LtE) (rI0 λi j=>.bl (decide (i<=j))):=opB0 λ_ _ _ _ _ _ _ q=>le_int q
theorem op_gt:OpR X (compareOp .Gt) (rI0 λi j=>.bl (decide (j<i))):=opB0 λ_ _ _ _ _ _ _ q=>gt_int q
theorem op_ge:OpR X (compareOp .GtE) (rI0 λi j=>.bl (decide (j<=i))):=opB0 λ_ _ _ _ _ _ _ q=>ge_int q
theorem nomark (b:Expr){op:CmpOp}(h:op≠.In:=by decide)(h2:op≠.NotIn:=by decide):behindInMarks op b=false:=by
 have e1:(op==CmpOp.In)=false:=by cases op<;>first |rfl |exact absurd rfl h
 have e2:(op==CmpOp.NotIn)=false:=by cases op<;>first |rfl |exact absurd rfl h2
 cases b<;>simp[behindInMarks,e1,e2]
theorem pe_cmpR {op:CmpOp}{r:R2}(ho:OpR X (compareOp op) r)(ha:PE X a ta)(hb:PE X b tb)(hm:behindInMarks op b=false):PE X (.Compare a [op] [b] pos) (tOp r ta tb):=by
 intro pins s Y H Q I h
 exact wpAny_Compare1 (binT ha hb I h λv u s2 x y H2 I2 rx ry q=>ho pins s2 Y H2 x y v u Q I2 rx ry q) hm
def tTest (t:TE):TT:=λY H Q=>t Y H λx H'=>∃k,x = .bl k/\Q k H'
theorem pt_cmpR {op:CmpOp}{r:R2}(ho:OpR X (compareOp op) r)(ha:PE X a ta)(hb:PE X b tb)(hm:behindInMarks op b=false):PT X (.Compare a [op] [b] pos) (tTest (tOp r ta tb)):=by
 intro pins s Y H Q I h
 refine wpAny_isTrue_Compare1 (thn (ha pins s Y H _ I h) λv s1 ⟨x,H1,I1,r1,q1⟩=>thn (hb pins s1 Y H1 _ I1 q1) λu s2 ⟨y,H2,I2,r2,q2⟩=>
  thn (ho pins s2 Y H2 x y v u _ I2 r1 r2 q2) λc s3 ⟨z,H3,I3,r3,k,e,q3⟩=>?_) hm
 subst e
 cases r3
 exact wpAny_truthy_bool ⟨H3,I3,q3⟩
def tChain (r r':R2)(ta tb tc:TE):TE:=λY H Q=>ta Y H λx H1=>tb Y H1 λy H2=>r x y H2 λz H3=>∃k,z = .bl k/\
 (if k=true then tc Y H3 λw' H4=>r' y w' H4 Q else Q (.bl false) H3)
theorem pe_chain {op op':CmpOp}{r r':R2}(ho:OpR X (compareOp op) r)(ho':OpR X (compareOp op') r')(ha:PE X a ta)(hb:PE X b tb)(hc:PE X c tc)
  (hm:lastMarks [op,op'] [b,c]=false:=by with_unfolding_all rfl):PE X (.Compare a [op,op'] [b,c] pos) (tChain r r' ta tb tc):=by
 intro pins s Y H Q I h
 refine Compare_chain (thn (ha pins s Y H _ I h) λv s1 ⟨x,H1,I1,r1,q1⟩=>chain_link (thn (hb pins s1 Y H1 _ I1 q1) λu s2 ⟨y,H2,I2,r2,q2⟩=>
  thn (ho pins s2 Y H2 x y v u _ I2 r1 r2 q2) λd s3 ⟨z,H3,I3,r3,k,e,q3⟩=>?_)) hm
 subst e
 cases r3
 refine wpAny_truthy_bool ?_
 cases k with
 |false=>exact ite_ff ⟨.bl false,H3,I3,rfl,q3⟩
 |true=>exact ite_tt (chain_last (thn (hc pins s3 Y H3 _ I3 q3) λw' s4 ⟨z',H4,I4,r4,q4⟩=>ho' pins s4 Y H4 y z' u w' Q I4 r2 r4 q4))
def TruV (K:Frag)(x:V)(H:Hp)(k:Bool):Prop:=
 match x with
 | .non=>k=false
 | .bl b=>k=b
 | .int i=>k=(i != 0)
 | .str y=>y.length<=sizeLine/\k=((y.length:Int) != 0)
 | .byt y=>y.size<=sizeLine/\k=((y.size:Int) != 0)
 | .ref p=>(∃xs,SqL K H p xs/\k = !xs.isEmpty)∨(∃xs,SqT K H p xs/\k = !xs.isEmpty)∨∃kvs,H p=some (.dK kvs)/\k = !kvs.isEmpty
 |_=>False
theorem isEmpty_kv {κ:Type}{kvs:List (κ×V)}{vs:List (κ×Value)}(r:KV kvs vs):(!vs.isEmpty) = !kvs.isEmpty:=by
 cases r<;>rfl
theorem isEmpty_of {xs:List V}{its:List Value}(r:Vals xs its):(!its.toArray.isEmpty) = !xs.isEmpty:=by
 cases r<;>simp
theorem line63:(sizeLine:Nat)<2^63:=by rw[sizeLine_eq];decide
theorem tru_ok:TruR X (λx H Q=>∃k,TruV X.K x H k/\Q k H):=by
 intro pins s Y H x v Q I rx h
 obtain⟨k,e,q⟩:=h
 have hl:=line63
 have hs:sizeLine=16777216:=sizeLine_eq
 cases x with
 |non=>
  cases rx
  have e':k=false:=e
  subst e'
  exact truthy_none ⟨H,I,q⟩
 |bl b=>
  cases rx
  have e':k=b:=e
  subst e'
  exact wpAny_truthy_bool ⟨H,I,q⟩
 |int i=>
  obtain⟨t,rfl⟩:=rx
  have e':k=(i != 0):=e
  subst e'
  exact PySem.P.truthy_int ⟨H,I,q⟩
 |str y=>
  obtain⟨t,rfl⟩:=rx
  obtain⟨hy,e'⟩:y.length<=sizeLine/\k=((y.length:Int) != 0):=e
  subst e'
  exact PySem.P.truthy_str (by omega) ⟨H,I.tok _,q⟩
 |byt y=>
  obtain⟨t,rfl⟩:=rx
  obtain⟨hy,e'⟩:y.size<=sizeLine/\k=((y.size:Int) != 0):=e
  subst e'
  exact PySem.W.truthy_bytes (by omega) ⟨H,I.tok _,q⟩
 |ref p=>
  cases rx
  have e':(∃xs,SqL X.K H p xs/\k = !xs.isEmpty)∨(∃xs,SqT X.K H p xs/\k = !xs.isEmpty)∨∃kvs,H p=some (.dK kvs)/\k = !kvs.isEmpty:=e
  rcases e' with⟨xs,hx,e'⟩ | ⟨xs,hx,e'⟩ | ⟨kvs,hx,e'⟩
  .subst e'
   obtain⟨its,r,pl,hz⟩:=I.list hx
   have hlen:=r.length
   exact wpAny_truthy_list pl.isList (by simp only[size_toArray];omega) ⟨H,I.tok _,by rw[isEmpty_of r];exact q⟩
  .subst e'
   obtain⟨its,r,pl,hz⟩:=I.tuple hx
   have hlen:=r.length
   exact truthy_tuple pl (by simp only[size_toArray];omega) ⟨H,I.tok _,by rw[isEmpty_of r];exact q⟩
  .subst e'
   obtain⟨hz,hS,vs,r,m⟩:kvs.length<=sizeLine/\(p==sysModules)=false/\∃vs,KV kvs vs/\s.heap.DictOf (mixKind X.prog X.w) p vs:=I.hok p _ hx
   have hlen:kvs.length=vs.length:=Paired.length r
   exact wpAny_truthy_dict hS m (by omega) ⟨H,I.tok _,by rw[isEmpty_kv r];exact q⟩
 |_=>exact (show False from e).elim
theorem pt_truth (ha:PE X a ta)(he:∀whole,isTrue a X.env whole=(do let v <- whole;standAt a.pos;holding [v] (truthy v))):
  PT X a (λY H Q=>ta Y H λx H'=>∃k,TruV X.K x H' k/\Q k H'):=by
 intro pins s Y H Q I h
 exact isTrue_plain (thn (ha pins s Y H _ I h) λv s1 ⟨x,H1,I1,r1,q1⟩=>tru_ok pins s1 Y H1 x v Q I1 r1 q1) (he _)
theorem op_add_str:OpR X (binaryOp .Add) (λx y H Q=>∃i j,x = .str i/\y = .str j/\i.length+j.length<=sizeLine/\Q (.str (i++j)) H):=by
 intro pins s Y H x y v u Q I rx ry h
 obtain⟨i,j,rfl,rfl,hz,q⟩:=h
 obtain⟨t,rfl⟩:=rx
 obtain⟨t',rfl⟩:=ry
 exact add_str (λt' tk=>⟨.str (i++j),H,I.tok _,⟨_,rfl⟩,q⟩) hz
theorem vals1 {x:V}{us:List Value}(r:Vals [x] us):∃u,us=[u]/\RelV x u:=by
 cases r with
 |cons r1 r2=>cases r2;exact⟨_,rfl,r1⟩
theorem vals2 {x y:V}{us:List Value}(r:Vals [x,y] us):∃u w',us=[u,w']/\RelV x u/\RelV y w':=by
 cases r with
 |cons r1 r2=>
  cases r2 with
  |cons r3 r4=>cases r4;exact⟨_,_,rfl,r1,r3⟩
end
structure ObjM (h:Heap) (x dx C:Addr) (mA:Str->Option Value):Prop where
 obj:h.get? x=some (instObj C dx)
 ns:h.Ns1 dx mA
 ne:dx≠x
theorem lookIn_ns {h:Heap}{dx:Addr}{mA:Str->Option Value}(n:h.Ns1 dx mA):∃od,h.get? dx=some od/\∀name,lookIn name od=some (mA name):=by
 obtain⟨o,es,ep,ho,hd,hk,_,hm⟩:=n
 refine⟨o,ho,λname=>?_⟩
 have e:=hm name
 unfold nsFind findBy at e
 rw[<- Array.find?_toList]at e
 unfold lookIn
 rw[hd]
 dsimp only
 split
 .rename_i y q
  rw[q]at e
  exact congrArg some e
 .rename_i q
  rw[q]at e
  have a:es.toList.any (·.refKey)=false:=by
   rw[List.any_eq_false]
   intro y hy
   obtain⟨z,t,hkey⟩:=hk y (Array.mem_toList_iff.mp hy)
   simp[DictEntry.refKey,hkey]
  have a':¬ es.toList.any (·.refKey)=true:=by rw[a];exact Bool.false_ne_true
  rw[if_neg a']
  exact congrArg some e
theorem ObjM.look {h:Heap}{x dx C:Addr}{mA:Str->Option Value}(I:ObjM h x dx C mA):∃od,PySem.W.InstAt h x (instObj C dx) C (some od)/\∀name,lookIn name od=some (mA name):=
 let⟨od,ho,hl⟩:=lookIn_ns I.ns
 ⟨od,⟨I.obj,rfl,rfl,ho⟩,hl⟩
section
variable {prog:Program}{w:World}{A:Around}{E:Value->Shared->Prop}{s:Shared}{K:Frag}{x dx C f:Addr}{mA:Str->Option Value}{name:Str}{v:Value}
theorem get_map {expr:Bool}{Q:Value->Shared->Prop}(X:K.In s.heap)(I:ObjM s.heap x dx C mA)(hg:plainGet K C name=true)(hh:PySem.W.hasDictIn K C=true)
  (ha:PySem.W.findIn K (.ref C) name=some none) (hv:mA name=some v) (hv':handedIn v=true) (h:Q v {s with toks:=s.toks+1}):
  wpAny (model prog w) A (getAttr (.ref x) name expr) Q E s:=by
 obtain⟨od,J,hl⟩:=I.look
 exact PySem.W.get_value X J (plainGet_of hg).1 (PySem.W.findObj_own hh ha rfl (by rw[hl,hv])) hv' h
theorem get_meth {pl:Sem Bool}{Q:Value×List Value->Shared->Prop}(X:K.In s.heap)(I:ObjM s.heap x dx C mA)(hg:plainGet K C name=true)
  (hf:PySem.W.findIn K (.ref C) name=some (some (.ref f))) (ht:isFn K (.ref f)=true) (hv:mA name=none) (h:Q (.ref f,[.ref x]) s):
  wpAny (model prog w) A (getMethod (.ref x) name pl) Q E s:=by
 obtain⟨od,J,hl⟩:=I.look
 exact PySem.W.method_fn X J (plainGet_of hg).1 (plainGet_of hg).2 hf (beq_iff_eq.mp ht) (by show (lookIn name od).map (·.isSome)=some false;rw[hl,hv];rfl) h
theorem set_map {ns:List Str}{Q:Unit->Shared->Prop}(X:K.In s.heap)(I:ObjM s.heap x dx C mA)
  (hs:PySem.W.findIn K (.ref C) "__setattr__"=some (some (.builtin "object.__setattr__"))) (hp:plainOver K C=true) (ht:takerIn K C name=some none) (hh:PySem.W.hasDictIn K C=true)
  (hw:PySem.Within mA ns) (hsz:ns.length<=sizeLine)
  (h:∀h',ObjM h' x dx C (λy=>if y=name then some v else mA y)->Heap.SameBut dx s.heap h'->Q () {s with heap:=h',toks:=s.toks+2}):
  wpAny (model prog w) A (setAttr (.ref x) name v) Q E s:=by
 obtain⟨od,J,hl⟩:=I.look
 refine PySem.W.set_plain X J hs (PySem.W.osa_open (s:={s with toks:=s.toks+1}) (r:=none) X J hp ht λb=>?_)
 obtain⟨cd,hc,hd'⟩:=PySem.W.any_some hh
 have hx:s.heap.get? x=some ⟨.ref C,some dx,.plain,#[]⟩:=I.obj
 refine wpAny_bind (wpAny_pure (wpAny_bind (wpAny_bind (wpAny_loadPart hx (wpAny_bind (PySem.W.Looks.here (s:={s with toks:=s.toks+1}) (PySem.W.looks_clsIn X hc) ?_))))))
 rw[hd']
 refine wpAny_pure (a:=some dx) (wpAny_bind (wpAny_pure (wpAny_bind ?_)))
 refine wpAny_nsSet1 (s:={s with toks:=s.toks+1}) I.ns λh' hn2 hs2=>?_
 obtain⟨oD,esD,epD,hoD,hdD,hcD⟩:=hn2.count (PySem.Within.cons name v hw)
 refine wpAny_bind (wpAny_lookBehind hoD (by rw[hdD];exact pastItsLine_dict (le_trans hcD (by rw[length_cons];omega))) ?_)
 exact wpAny_pure (h _ ⟨(hs2.2 _ (Ne.symm I.ne)).trans I.obj,hn2,I.ne⟩ hs2)
theorem make_map {R:Result->Shared->Prop}{vs:List Value}{kw:List (Str×Value)}(X:K.In s.heap)(hm:makesIn K C=true)
  (hi:PySem.W.findIn K (.ref C) "__init__"=some (some (.ref f))) (hf:PySem.W.typeIn K (.ref f)=some (.type "function"))
  (h:codeAny (model prog w) (A.under (.builtin "type.__call__" ⟨.ref C::vs,kw⟩)) (.call (.ref f) ⟨.ref (s.heap.objs.size+1)::vs,kw⟩) (PySem.W.InitBack (s.heap.objs.size+1) R)
   {s with heap:=(s.heap.push emptyDict).push (instObj C s.heap.objs.size)}):
  codeAny (model prog w) A (.call (.ref C) ⟨vs,kw⟩) R s:=by
 obtain⟨hh,g,d,t,os⟩:=s
 exact PySem.W.make_core (PySem.W.makes_of X hm) (PySem.W.looks_findIn X hi) (λself=>PySem.W.bind_fn X self hf) (.inl rfl) h
end
def putF (f:Str)(v:V):List (Str×V)->List (Str×V)
 | []=>[(f,v)]
 | (g,x)::r=>if g=f then (g,v)::r else (g,x)::putF f v r
theorem lookup_putF (f g:Str)(v:V):∀fs:List (Str×V),(putF f v fs).lookup g=if g=f then some v else fs.lookup g
 | []=>by
  show List.lookup g [(f,v)]=_
  by_cases h:g=f
  .have hb:(g==f)=true:=beq_iff_eq.mpr h
   simp only[List.lookup,hb,if_pos h]
  .have hb:(g==f)=false:=beq_eq_false_iff_ne.mpr h
   simp only[List.lookup,hb,if_neg h]
 | (k,x)::r=>by
  have ih:=lookup_putF f g v r
  rw[show putF f v ((k,x)::r)=(if k=f then (k,v)::r else (k,x)::putF f v r) from rfl]
  by_cases hk:k=f
  .rw [if_pos hk]
   by_cases h:g=k
   .have hb:(g==k)=true:=beq_iff_eq.mpr h
    simp only[List.lookup,hb,if_pos (h.trans hk)]
   .have hb:(g==k)=false:=beq_eq_false_iff_ne.mpr h
    simp only[List.lookup,hb,if_neg (λe:g=f=>h (e.trans hk.symm))]
  .rw [if_neg hk]
   by_cases h:g=k
   .have hb:(g==k)=true:=beq_iff_eq.mpr h
    simp only[List.lookup,hb,if_neg (λe:g=f=>hk (h.symm.trans e))]
   .have hb:(g==k)=false:=beq_eq_false_iff_ne.mpr h
    simp only[List.lookup,hb]
    exact ih
theorem keys_putF (f:Str)(v:V):∀fs:List (Str×V),f∈(putF f v fs).map (·.1)/\∀g,g∈fs.map (·.1)->g∈(putF f v fs).map (·.1)
 | []=>⟨by simp[putF],λg h=>by simp at h⟩
 | (k,x)::r=>by
  obtain⟨i1,i2⟩:=keys_putF f v r
  rw[show putF f v ((k,x)::r)=(if k=f then (k,v)::r else (k,x)::putF f v r) from rfl]
  by_cases hk:k=f
  .rw [if_pos hk]
   subst hk
   exact⟨by simp,λg h=>by simpa using h⟩
  .rw [if_neg hk]
   refine⟨?_,λg h=>?_⟩
   .rw [map_cons]
    exact mem_cons_of_mem _ i1
   .rw [map_cons]at h ⊢
    rcases mem_cons.mp h with e |e
    .exact mem_cons.mpr (.inl e)
    .exact mem_cons_of_mem _ (i2 g e)
theorem length_putF (f:Str)(v:V):∀fs:List (Str×V),(putF f v fs).length<=fs.length+1
 | []=>by simp[putF]
 | (k,x)::r=>by
  have ih:=length_putF f v r
  rw[show putF f v ((k,x)::r)=(if k=f then (k,v)::r else (k,x)::putF f v r) from rfl]
  by_cases hk:k=f
  .rw [if_pos hk,length_cons,length_cons];omega
  .rw [if_neg hk,length_cons,length_cons];omega
theorem RelO.some_of {v:V}{o:Option Value}(r:RelO (some v) o):∃u,o=some u/\RelV v u:=by
 cases o with
 |none=>exact (show False from r).elim
 |some u=>exact⟨u,rfl,r⟩
theorem RelO.none_of {o:Option Value}(r:RelO none o):o=none:=by
 cases o with
 |none=>rfl
 |some u=>exact (show False from r).elim
theorem handed_of {v:V}{u:Value}(r:RelV v u):handedIn u=true:=by
 cases v with
 |non=>cases (show u=Value.none from r);rfl
 |bl b=>cases (show u=Value.bool b from r);rfl
 |int i=>obtain⟨t,e⟩:=(show ∃t,u=Value.int i t from r);cases e;rfl
 |str x=>obtain⟨t,e⟩:=(show ∃t,u=Value.str x t from r);cases e;rfl
 |byt b=>obtain⟨t,e⟩:=(show ∃t,u=Value.bytes b t from r);cases e;rfl
 |flt b=>obtain⟨t,e⟩:=(show ∃t,u=Value.float b t from r);cases e;rfl
 |ref a=>cases (show u=Value.ref a from r);rfl
 |ty n=>cases (show u=Value.type n from r);rfl
section
variable {P:Program}{w:World}{H H':Hp}{h h':Heap}{a C dx:Addr}{fs fs':List (Str×V)}
theorem ins_get (hok:HOk P w H h)(e:H a=some (.ins C dx fs)):∃mA,ObjM h a dx C mA/\(∀f,RelO (fs.lookup f) (mA f))/\PySem.Within mA (fs.map (·.1))/\fs.length<=1000/\H dx=some (.own a):=by
 obtain⟨d,z,ne,ob,mA,n,r,q⟩:=(show ObjOk P w H h a (.ins C dx fs) from hok a _ e)
 exact⟨mA,⟨ob,n,ne⟩,r,q,z,d⟩
end
structure Cls (K:Frag) (C:Addr):Prop where
 pg:plainGet K C Str.empty=true
 hd:PySem.W.hasDictIn K C=true
 po:plainOver K C=true
 sa:PySem.W.findIn K (.ref C) "__setattr__"=some (some (.builtin "object.__setattr__"))
theorem Cls.get {K:Frag}{C:Addr}(c:Cls K C)(f:Str):plainGet K C f=true:=c.pg
def NoAttr (K:Frag)(C:Addr)(f:Str):Prop:=PySem.W.findIn K (.ref C) f=some none
theorem NoAttr.taker {K:Frag}{C:Addr}{f:Str}(n:NoAttr K C f):takerIn K C f=some none:=by
 unfold takerIn
 rw[show PySem.W.findIn K (.ref C) f=some none from n]
 rfl
structure Meth (K:Frag) (C:Addr) (m:Str) (f:Addr):Prop where
 at_:PySem.W.findIn K (.ref C) m=some (some (.ref f))
 fn:isFn K (.ref f)=true
 kp:keepIn K (.ref f)=true
section
variable {X:Cx}{pins:List (Addr×Obj)}{Y:St}{H:Hp}{s:Shared}{a C dx:Addr}{fs:List (Str×V)}{f:Str}{v:V}{A:Around}{E:Value->Shared->Prop}
theorem getattr_ok {b:Bool}{Q:Value->Shared->Prop}(I:Inv X pins Y H s)(e:H a=some (.ins C dx fs))(c:Cls X.K C)(n:NoAttr X.K C f)(l:fs.lookup f=some v)
  (h:∀u s',Inv X pins Y H s'->RelV v u->Q u s'):wpAny (model X.prog X.w) A (getAttr (.ref a) f b) Q E s:=by
 obtain⟨mA,O,r,_,_,_⟩:=ins_get I.hok e
 obtain⟨u,hu,ru⟩:=RelO.some_of (v:=v) (o:=mA f) (by rw[<- l];exact r f)
 exact get_map I.kIn O (c.get f) c.hd n hu (handed_of ru) (h u _ (I.tok _) ru)
theorem getmeth_ok {m:Str}{g:Addr}{pl:Sem Bool}{Q:Value×List Value->Shared->Prop}(I:Inv X pins Y H s)(e:H a=some (.ins C dx fs))(c:Cls X.K C)(k:Meth X.K C m g)(l:fs.lookup m=none)
  (h:Q (.ref g,[.ref a]) s):wpAny (model X.prog X.w) A (getMethod (.ref a) m pl) Q E s:=by
 obtain⟨mA,O,r,_,_,_⟩:=ins_get I.hok e
 have hn:mA m=none:=RelO.none_of (by rw[<- l];exact r m)
 exact get_meth I.kIn O (c.get m) k.at_ k.fn hn h
theorem setattr_ok {y:V}{u:Value}{Q:Unit->Shared->Prop}(I:Inv X pins Y H s)(e:H a=some (.ins C dx fs))(c:Cls X.K C)(n:NoAttr X.K C f)(hl:fs.length<1000)(ry:RelV y u)
  (h:∀s',Inv X pins Y (upd H a (.ins C dx (putF f y fs))) s'->Q () s'):wpAny (model X.prog X.w) A (setAttr (.ref a) f u) Q E s:=by
 obtain⟨mA,O,r,wi,_,ho⟩:=ins_get I.hok e
 have hz:(fs.map (·.1)).length<=sizeLine:=by rw[length_map,sizeLine_eq];omega
 refine set_map I.kIn O c.sa c.po n.taker c.hd wi hz λh' O' sb=>h _ ?_
 have hd:∃o,h'.get? dx=some o:=let⟨o,_,_,e',_⟩:=O'.ns;⟨o,e'⟩
 refine I.write (x:=a) (e:=dx) (by rw[e];exact True.intro) (.inr ho) (λb q hb z=>(sb.2 b hb).trans z) hd ?_
 refine⟨by rw[upd_ne O.ne];exact ho,?_,O.ne,O'.obj,_,O'.ns,λg=>?_,λg hg=>?_⟩
 .have:=length_putF f y fs;omega
 .show RelO ((putF f y fs).lookup g) (if g=f then some u else mA g)
  rw[lookup_putF]
  by_cases q:g=f
  .rw [if_pos q,if_pos q];exact ry
  .rw [if_neg q,if_neg q];exact r g
 .by_cases q:g=f
  .rw [q];exact (keys_putF f y fs).1
  .refine (keys_putF f y fs).2 g (wi g λz=>hg ?_)
   show (if g=f then some u else mA g)=none
   rw[if_neg q];exact z
theorem Inv.made (I:Inv X pins Y H s):Inv X pins Y (upd (upd H s.heap.objs.size (.own (s.heap.objs.size+1))) (s.heap.objs.size+1) (.ins C s.heap.objs.size []))
  {s with heap:=(s.heap.push emptyDict).push (instObj C s.heap.objs.size)}:=by
 have e1:(s.heap.push emptyDict).get? s.heap.objs.size=some emptyDict:=get?_push_size s.heap rfl
 have e2:((s.heap.push emptyDict).push (instObj C s.heap.objs.size)).get? (s.heap.objs.size+1)=some (instObj C s.heap.objs.size):=by
  have:=get?_push_size (s.heap.push emptyDict) (o:=instObj C s.heap.objs.size) rfl
  rwa[size_push]at this
 have e3:(s.heap.push emptyDict).Ns s.heap.objs.size (λ_=>none):=⟨emptyDict,#[],_,e1,rfl,(λe he=>absurd he (by simp)),λ_=>rfl⟩
 have I1:=I.laid (a:=s.heap.objs.size) (o:=.own (s.heap.objs.size+1)) (h':=s.heap.push emptyDict) (t':=s.toks) (λb u q=>get?_push_of_some _ q) (Nat.le_refl _) ⟨_,e1⟩
 refine I1.laid (a:=s.heap.objs.size+1) (o:=.ins C s.heap.objs.size []) (t':=s.toks) (λb u q=>get?_push_of_some _ q) (Nat.le_of_eq (size_push _ _)) ?_
 have ne:s.heap.objs.size≠s.heap.objs.size+1:=ne_of_lt (Nat.lt_succ_self _)
 refine⟨by rw[upd_ne ne,upd_same],zero_le _,ne,e2,λ_=>none,(Heap.Ns1.of_empty e3).at λo q=>get?_push_of_some _ q,λ_=>True.intro,λy hy=>absurd rfl hy⟩
theorem attr_of {prog:Program}{w:World}{env:Env}{e:Expr}{f:Str}{pos:Pos}{s:Shared}{Q:Value->Shared->Prop}(hb:attributeBase e f env (eval e env)=eval e env)
  (h:wpAny (model prog w) A (eval e env) (λo s₁=>wpAny (model prog w) A (getAttr o f true) Q E s₁) E s):wpAny (model prog w) A (eval (.Attribute e f pos) env) Q E s:=
 Attribute_any_ h (by rw[arm_eval_Attribute,hb])
end
def tFld (K:Frag)(ta:TE)(f:Str):TE:=λY H Q=>ta Y H λx H1=>∃a C dx fs v,x = .ref a/\H1 a=some (.ins C dx fs)/\Cls K C/\NoAttr K C f/\fs.lookup f=some v/\Q v H1
def sFld (K:Frag)(ta tv:TE)(f:Str):TS:=λD Y H=>tv Y H λy H1=>ta Y H1 λx H2=>∃a C dx fs,x = .ref a/\H2 a=some (.ins C dx fs)/\Cls K C/\NoAttr K C f/\fs.length<1000/\
 D.nx Y (upd H2 a (.ins C dx (putF f y fs)))
def InOp (X:Cx)(op:Operator)(rd:V->V->Hp->VK->Prop):Prop:=
 ∀(pins:List (Addr×Obj)) (s:Shared) (Y:St) (H:Hp) (x y:V) (u v:Value) (Q:VK),Inv X pins Y H s->RelV x u->RelV y v->rd x y H Q->wpAny (model X.prog X.w) X.A (inplaceOp op u v) (EP X pins Y Q) X.xe s
def sFldAug (K:Frag)(ta tv:TE)(rd:V->V->Hp->VK->Prop)(f:Str):TS:=λD Y H=>ta Y H λx H1=>∃a C dx fs v,x = .ref a/\H1 a=some (.ins C dx fs)/\Cls K C/\NoAttr K C f/\fs.lookup f=some v/\
 tv Y H1 λy H2=>rd v y H2 λz H3=>∃dx' fs',H3 a=some (.ins C dx' fs')/\fs'.length<1000/\D.nx Y (upd H3 a (.ins C dx' (putF f z fs')))
section
variable {X:Cx}{o e value:Expr}{f:Str}{pos pos' tpos:Pos}{ta tv:TE}
theorem pe_fld (he:PE X e ta)(hb:attributeBase e f X.env (eval e X.env)=eval e X.env):PE X (.Attribute e f pos) (tFld X.K ta f):=by
 intro pins s Y H Q I h
 refine attr_of hb (thn (he pins s Y H _ I h) λu s1 ⟨x,H1,I1,rx,a,C,dx,fs,v,ex,ea,c,n,l,q⟩=>?_)
 subst ex
 obtain rfl:u=Value.ref a:=rx
 exact getattr_ok I1 ea c n l λu' s2 I2 ru=>⟨v,H1,I2,ru,q⟩
theorem ps_fld (ha:PE X o ta)(hv:PE X value tv)(hs:swapsWith value (some (.Attribute o f pos')) pos.line X.env=pure false):PS X (.Assign [.Attribute o f pos'] value pos) (sFld X.K ta tv f):=by
 intro pins s Y H D I h
 refine plainObj_wpAny_Assign_Attribute (thn (hv pins s Y H _ I h) λu s1 ⟨y,H1,I1,ry,q⟩=>thn (ha pins s1 Y H1 _ I1 q) λov s2 ⟨x,H2,I2,rx,a,C,dx,fs,ex,ea,c,n,l,q2⟩=>?_) hs
 subst ex
 obtain rfl:ov=Value.ref a:=rx
 exact setattr_ok I2 ea c n l ry λs3 I3=>⟨Y,_,I3,q2⟩
theorem ps_fldaug {op:Operator}{rd:V->V->Hp->VK->Prop}(ha:PE X o ta)(hv:PE X value tv)(hop:InOp X op rd):PS X (.AugAssign (.Attribute o f tpos) op value pos) (sFldAug X.K ta tv rd f):=by
 intro pins s Y H D I h
 refine wpAny_AugAssign_AttributeAny (thn (ha pins s Y H _ I h) λov s1 ⟨x,H1,I1,rx,a,C,dx,fs,v,ex,ea,c,n,l,q⟩=>?_)
 subst ex
 obtain rfl:ov=Value.ref a:=rx
 refine getattr_ok I1 ea c n l λu s2 I2 ru=>thn (hv pins s2 Y H1 _ I2 q) λw3 s3 ⟨y,H2,I3,ry,q3⟩=>thn (hop pins s3 Y H2 v y u w3 _ I3 ru ry q3) λw4 s4 ⟨z,H3,I4,rz,dx',fs',ea',l',q4⟩=>?_
 exact setattr_ok I4 ea' c n l' rz λs5 I5=>⟨Y,_,I5,q4⟩
def rAdd:V->V->Hp->VK->Prop:=λx y H Q=>∃i j,x = .int i/\y = .int j/\Q (.int (i+j)) H
def rSub:V->V->Hp->VK->Prop:=λx y H Q=>∃i j,x = .int i/\y = .int j/\Q (.int (i-j)) H
theorem in_add:InOp X .Add rAdd:=by
 rintro pins s Y H x y u v Q I rx ry ⟨i,j,rfl,rfl,q⟩
 obtain⟨t,rfl⟩:=(show ∃t,u=Value.int i t from rx)
 obtain⟨t',rfl⟩:=(show ∃t',v=Value.int j t' from ry)
 exact PyProof.Rows.iadd_int ⟨.int (i+j),H,I.tok _,⟨_,rfl⟩,q⟩
theorem in_sub:InOp X .Sub rSub:=by
 rintro pins s Y H x y u v Q I rx ry ⟨i,j,rfl,rfl,q⟩
 obtain⟨t,rfl⟩:=(show ∃t,u=Value.int i t from rx)
 obtain⟨t',rfl⟩:=(show ∃t',v=Value.int j t' from ry)
 exact PyProof.Rows.isub_int ⟨.int (i-j),H,I.tok _,⟨_,rfl⟩,q⟩
end
section
variable {X:Cx}{pins:List (Addr×Obj)}{Y:St}{H:Hp}{s:Shared}{A:Around}{E:Value->Shared->Prop}{Q:Value->Shared->Prop}{c:Value}{b:Bool}
inductive TyOf (K:Frag) (H:Hp):V->Value->Prop where
 |non:TyOf K H .non (.type "NoneType")
 |bl (x:Bool):TyOf K H (.bl x) (.type "bool")
 |int (i:Int):TyOf K H (.int i) (.type "int")
 |str (x:Str):TyOf K H (.str x) (.type "str")
 |flt (x:UInt64):TyOf K H (.flt x) (.type "float")
 |lst {a:Addr} {xs:List V} (e:H a=some (.lst xs)):TyOf K H (.ref a) (.type "list")
 |frz {a:Addr} {o:Obj} {xs:List V} (e:H a=some (.frz o (.lst xs))):TyOf K H (.ref a) (.type "list")
 |tup {a:Addr} {xs:List V} (e:H a=some (.tup xs)):TyOf K H (.ref a) (.type "tuple")
 |dK {a:Addr} {kvs:List (Key×V)} (e:H a=some (.dK kvs)):TyOf K H (.ref a) (.type "dict")
 |dT {a:Addr} {kvs:List (List Key×V)} (e:H a=some (.dT kvs)):TyOf K H (.ref a) (.type "dict")
 |ins {a C dx:Addr} {fs:List (Str×V)} (e:H a=some (.ins C dx fs)) (cl:Cls K C) (ha:PySem.W.findIn K (.ref C) "__class__"=some (some (.builtin "object.__class__")))
   (hn:PySem.W.specialIn K (.builtin "object.__class__") "__get__"=some (some (.builtin "getset_descriptor.__get__"))) (htk:PySem.W.takesIn K (.builtin "object.__class__")=some true)
   (hm:PySem.W.mroIn K C (.type "object")=some true):TyOf K H (.ref a) (.ref C)
theorem isinst_ok {x:V}{u t:Value}(I:Inv X pins Y H s)(rx:RelV x u)(ty:TyOf X.K H x t)(e:kitOne X.K t c=some b)(h:∀tk,Q (.bool b) {s with toks:=tk}):
  wpAny (model X.prog X.w) A (call (.builtin "isinstance") [u,c]) Q E s:=by
 cases ty with
 |non=>cases (show u=Value.none from rx);exact kia_one PySem.W.kitx_none I.kIn True.intro e (λz=>nomatch z) h
 |bl y=>cases (show u=Value.bool y from rx);exact kia_one PySem.W.kitx_bool I.kIn True.intro e (λz=>nomatch z) h
 |int i=>obtain⟨t,q⟩:=(show ∃t,u=Value.int i t from rx);cases q;exact kia_one PySem.W.kitx_int I.kIn True.intro e (λz=>nomatch z) h
 |str y=>obtain⟨t,q⟩:=(show ∃t,u=Value.str y t from rx);cases q;exact kia_one PySem.W.kitx_str I.kIn True.intro e (λz=>nomatch z) h
 |flt y=>obtain⟨t,q⟩:=(show ∃t,u=Value.float y t from rx);cases q;exact kia_one PySem.W.kitx_float I.kIn True.intro e (λz=>nomatch z) h
 | @lst a xs ea=>
  cases (show u=Value.ref a from rx)
  obtain⟨_,_,n,_,h1⟩:=(show ObjOk X.prog X.w H s.heap a (.lst xs) from I.hok a _ ea)
  exact kia_one kitx_list I.kIn ⟨_,h1,rfl⟩ e (λz=>nomatch z) h
 | @frz a ob xs ea=>
  cases (show u=Value.ref a from rx)
  obtain⟨_,_,_,n,_,h1⟩:=(show ObjOk X.prog X.w H s.heap a (.frz ob (.lst xs)) from I.hok a _ ea)
  exact kia_one kitx_list I.kIn ⟨_,h1,rfl⟩ e (λz=>nomatch z) h
 | @tup a xs ea=>
  cases (show u=Value.ref a from rx)
  obtain⟨_,_,_,p⟩:=(show ObjOk X.prog X.w H s.heap a (.tup xs) from I.hok a _ ea)
  obtain⟨o,h1,h2,_⟩:=p
  exact kia_one kitx_tuple I.kIn ⟨o,h1,h2⟩ e (λz=>nomatch z) h
 | @dK a kvs ea=>
  cases (show u=Value.ref a from rx)
  obtain⟨_,_,vs,_,p⟩:=(show ObjOk X.prog X.w H s.heap a (.dK kvs) from I.hok a _ ea)
  obtain⟨o,es,ep,h1,h2,_⟩:=p
  exact kia_one kitx_dict I.kIn ⟨o,h1,h2.1⟩ e (λz=>nomatch z) h
 | @dT a kvs ea=>
  cases (show u=Value.ref a from rx)
  obtain⟨_,_,xs,_,o,es,ep,h1,h2,_⟩:=(show ObjOk X.prog X.w H s.heap a (.dT kvs) from I.hok a _ ea)
  exact kia_one kitx_dict I.kIn ⟨o,h1,h2.1⟩ e (λz=>nomatch z) h
 | @ins a C dx fs ea cl ha hn htk hm=>
  cases (show u=Value.ref a from rx)
  obtain⟨mA,O,_⟩:=ins_get I.hok ea
  obtain⟨od,J,_⟩:=O.look
  exact kia_one (PySem.W.kitx_own (cl.get _) cl.hd ha hn htk hm) I.kIn J e (λz=>nomatch z) h
end
structure Room (k:Nat) (A:Around):Prop where
 hd:A.handled=none
 dp:A.depth+3*k+5<recursionLimit
 un:A.units+16*k+200<cLine
theorem Room.mono {j k:Nat}{A:Around}(r:Room k A)(h:j<=k):Room j A:=⟨r.hd,by have:=r.dp;omega,by have:=r.un;omega⟩
theorem Room.deeper {k:Nat}{A:Around}(r:Room (k+1) A)(env:Env):Room k (A.deeper env):=
 ⟨r.hd,by have:=r.dp;show A.depth+1+3*k+5<_;omega,by have:=r.un;show A.units+3+16*k+200<_;omega⟩
theorem make_depth {A:Around}{C:Addr}{us:List Value}{kw:List (Str×Value)}:(A.under (.builtin "type.__call__" ⟨.ref C::us,kw⟩)).depth=A.depth+1:=by
 first |rfl |simp[Around.under,Code.weight,Code.isCreation,Code.isGuard,Code.isCaller,Code.frames,Code.isFrame,guardIds]
theorem make_units {A:Around}{C:Addr}{us:List Value}{kw:List (Str×Value)}:(A.under (.builtin "type.__call__" ⟨.ref C::us,kw⟩)).units=A.units+1:=by
 first |rfl |simp[Around.under,Code.cUnits,Code.frames,Code.isFrame]
theorem Room.make {k:Nat}{A:Around}(r:Room (k+1) A)(C:Addr)(us:List Value)(kw:List (Str×Value)):Room k (A.under (.builtin "type.__call__" ⟨.ref C::us,kw⟩)):=
 ⟨r.hd,by have:=r.dp;rw[make_depth];omega,by have:=r.un;rw[make_units];omega⟩
theorem Room.depth {k:Nat}{A:Around}(r:Room k A):A.depth<recursionLimit:=by have:=r.dp;omega
theorem Room.units {k:Nat}{A:Around}(r:Room k A):A.units+64<cLine:=by have:=r.un;omega
def tNil:TA:=λ_ H Q=>Q [] H
def tCons (ta:TE)(tr:TA):TA:=λY H Q=>ta Y H λx H1=>tr Y H1 λxs H2=>Q (x::xs) H2
section
variable {X:Cx}{e:Expr}{es:List Expr}{te:TE}{t:TA}{pos:Pos}
theorem pa_nil:PA X [] tNil:=λ_ _ _ _ H Q I h=>Calls.spliced_nil ⟨[],H,I,.nil,h⟩
theorem pa_cons (ha:PE X e te)(hr:PA X es t)(hs:starEach (e::es) X.env=(false,eval e X.env)::starEach es X.env:=by rfl):PA X (e::es) (tCons te t):=by
 intro pos pins s Y H Q I h
 rw[hs]
 show wpAny _ _ (spliced ((false,eval e X.env)::backTo pos (starEach es X.env))) _ _ s
 refine Calls.spliced_cons (thn (ha pins s Y H _ I h) λu s1 ⟨x,H1,I1,r1,q1⟩=>?_)
 exact thn (hr pos pins s1 Y H1 _ I1 q1) λus s2 ⟨xs,H2,I2,r2,q2⟩=>⟨x::xs,H2,I2,.cons r1 r2,q2⟩
end
abbrev Sp:=List V->Hp->VK->XK->Prop
abbrev CXT:=List Env->Hp->Shared->XK->Value->Shared->Prop
structure Env0 (P:Program) (w:World) (K:Frag) (mg:Str->Option Value) (base:Heap) (A:Around) (outer:List Env) (s:Shared) (H:Hp):Prop where
 frames:A.frames=some outer
 mod:Mod K mg base
 bs:∀b o,base.get? b=some o->s.heap.get? b=some o/\H b=none
 bsz:base.objs.size<=s.heap.objs.size
 funs:s.heap.FunFrames base outer
 frf:∀b∈frs outer,H b=none
 hok:HOk P w H s.heap
 bare:AllBare s.gens
def CE (outer:List Env)(P:Program)(w:World)(H:Hp)(s:Shared)(Q:VK)(u:Value)(s':Shared):Prop:=
 ∃v H',s'.os=s.os/\AllBare s'.gens/\Un (frs outer) [] H H' s.heap s'.heap/\HOk P w H' s'.heap/\RelV v u/\Q v H'
def CR (CX:CXT)(outer:List Env)(P:Program)(w:World)(H:Hp)(s:Shared)(Q:VK)(E:XK)(r:Result)(s':Shared):Prop:=
 match r with
 | .ok (.ret u)=>CE outer P w H s Q u s'
 | .ok _=>False
 | .error e=>CX outer H s E e s'
structure FnOk (P:Program) (w:World) (K:Frag) (mg:Str->Option Value) (base:Heap) (CX:CXT) (k:Nat) (f:Addr) (fd:FuncData) (ps:List Str) (sp:Sp):Prop where
 len:∀vs H Q E,sp vs H Q E->vs.length=ps.length
 run:∀(A:Around) (outer:List Env) (s:Shared) (H:Hp) (args:Args) (us:List Value) (vs:List V) (Q:VK) (E:XK),Room k A->Env0 P w K mg base A outer s H->BindsTo s fd args (ps.zip us)->Vals vs us->sp vs H Q E->
  codeAny (model P w) A (.call (.ref f) args) (CR CX outer P w H s Q E) s
theorem Env0.make {P:Program}{w:World}{K:Frag}{mg:Str->Option Value}{base:Heap}{A:Around}{outer:List Env}{s:Shared}{H:Hp}(e:Env0 P w K mg base A outer s H)(C:Addr)(us:List Value)(kw:List (Str×Value)):
  Env0 P w K mg base (A.under (.builtin "type.__call__" ⟨.ref C::us,kw⟩)) outer s H:=⟨by first |exact e.frames | (simpa[Around.under,Code.envs,Code.isFrame,pushEnvs] using e.frames),e.mod,e.bs,e.bsz,e.funs,e.frf,e.hok,e.bare⟩
section
variable {X:Cx}{pins:List (Addr×Obj)}{Y:St}{H:Hp}{s s':Shared}
theorem Inv.env0 (I:Inv X pins Y H s):Env0 X.prog X.w X.K X.mg X.base X.A X.stack s H:=
 ⟨I.ok.frames,I.ok.mod,I.bs,le_trans I.ok.bsz I.sz,I.stack,I.stkFree,I.hok,I.bare⟩
theorem Inv.after {Q:VK}{u:Value}(I:Inv X pins Y H s)(h:CE X.stack X.prog X.w H s Q u s'):EP X pins Y Q u s':=by
 obtain⟨v,H',os,bare,un,hok,r,q⟩:=h
 obtain⟨hh,g,d,t,os'⟩:=s'
 obtain rfl:os'=s.os:=os
 exact⟨v,H',I.call (h':=hh) (g':=g) (d':=d) (t':=t) (ch:=[]) un hok bare (λb z=>absurd z (by simp)),r,q⟩
end
def tCall (sp:Sp)(dvs:List V)(E:XK)(t:TA):TE:=λY H Q=>t Y H λvs H1=>sp (vs++dvs) H1 Q E
def tMeth (C:Addr)(m:Str)(sp:Sp)(dvs:List V)(E:XK)(ta:TE)(t:TA):TE:=λY H Q=>ta Y H λx H1=>∃a dx fs,x = .ref a/\H1 a=some (.ins C dx fs)/\fs.lookup m=none/\
 t Y H1 λvs H2=>sp (x::(vs++dvs)) H2 Q E
def tMake (C:Addr)(sp:Sp)(dvs:List V)(E:XK)(t:TA):TE:=λY H Q=>t Y H λvs H1=>∀x dx,H1 x=none->H1 dx=none->dx≠x->
 sp (.ref x::(vs++dvs)) (upd (upd H1 dx (.own x)) x (.ins C dx [])) (λv H2=>v = .non/\Q (.ref x) H2) E
def Binds (K:Frag)(fd:FuncData)(ps:List Str)(ds:List Value):Prop:=
 ∀(s:Shared) (us:List Value),K.In s.heap->(us++ds).length=ps.length->BindsTo s fd ⟨us,[]⟩ (ps.zip (us++ds))
theorem Binds.all {K:Frag}{fd:FuncData}{ps:List Str}(h:∀us:List Value,us.length=ps.length->bindArgs fd ⟨us,[]⟩=pure (ps.zip us)):Binds K fd ps []:=λs us _ hl=>by
 rw[append_nil]at hl ⊢
 exact .of_eq (h us hl)
def Passes (CX:CXT)(X:Cx)(E:XK):Prop:=∀(pins:List (Addr×Obj)) (Y:St) (H:Hp) (s:Shared) (e:Value) (s':Shared),Inv X pins Y H s->CX X.stack H s E e s'->X.xe e s'
section
variable {X:Cx}{CX:CXT}{k:Nat}{f C:Addr}{fd:FuncData}{ps:List Str}{sp:Sp}{dvs:List V}{ds:List Value}{E:XK}{x m:Str}{p pos apos:Pos}{e o:Expr}{es:List Expr}{ta:TE}{t:TA}
theorem run_fn {pins:List (Addr×Obj)}{Y:St}{H:Hp}{s:Shared}{Q:VK}{us:List Value}{vs:List V}(F:FnOk X.prog X.w X.K X.mg X.base CX k f fd ps sp)(hr:Room k X.A)(hb:Binds X.K fd ps ds)(hd:Vals dvs ds)(hx:Passes CX X E)
  (I:Inv X pins Y H s) (r:Vals vs us) (h:sp (vs++dvs) H Q E):wpAny (model X.prog X.w) X.A (call (.ref f) us) (EP X pins Y Q) X.xe s:=by
 have r2:Vals (vs++dvs) (us++ds):=r.append hd
 have hl:(us++ds).length=ps.length:=by rw[<- r2.length];exact F.len _ _ _ _ h
 refine wpAny_call (codeAny_mono (F.run X.A X.stack s H ⟨us,[]⟩ (us++ds) (vs++dvs) Q E hr I.env0 (hb s us I.kIn hl) r2 h) λr s' hq=>?_)
 cases r with
 |error e=>exact hx pins Y H s e s' I hq
 |ok fl=>
  cases fl with
  |ret u=>exact I.after hq
  |next=>exact False.elim hq
  |brk=>exact False.elim hq
  |cont=>exact False.elim hq
theorem pe_call (F:FnOk X.prog X.w X.K X.mg X.base CX k f fd ps sp)(hr:Room k X.A)(hg:Gl X x)(hm:X.mg x=some (.ref f))(hk:keepIn X.K (.ref f)=true)(hb:Binds X.K fd ps ds)(hd:Vals dvs ds)(hx:Passes CX X E)
  (ha:PA X (e::es) t) (hdb:(x==("__debug__":Str))=false:=by decide) (he:starEach (e::es) X.env=(false,eval e X.env)::starEach es X.env:=by rfl) (hpl:(backTo pos (starEach es X.env)).any (·.1)=false:=by rfl):
  PE X (.Call (.Name x p) (e::es) [] pos) (tCall sp dvs E t):=by
 intro pins s Y H Q I h
 refine wpAny_Call_Name_kw (ld_glob I hg hm ?_ hdb)
 refine callWith_K (h₀:=X.base) I.ok.mod.kin hk (thn (ha pos pins s Y H _ I h) λus s1 ⟨vs,H1,I1,r,q⟩=>⟨I1.kIn,?_⟩) he hpl
 exact run_fn F hr hb hd hx I1 r q
theorem pe_meth {pl:Sem Bool}(he:PE X o ta)(c:Cls X.K C)(hm:Meth X.K C m f)(F:FnOk X.prog X.w X.K X.mg X.base CX k f fd ps sp)(hr:Room k X.A)(hb:Binds X.K fd ps ds)(hd:Vals dvs ds)(hx:Passes CX X E)(ha:PA X (e::es) t)
  (hst:starEach (e::es) X.env=(false,eval e X.env)::starEach es X.env:=by rfl) (hpl:(backTo pos (starEach es X.env)).any (·.1)=false:=by rfl)
  (ht:eval (.Call (.Attribute o m apos) (e::es) [] pos) X.env=(do
   let ov <- eval o X.env
   standAt apos.atName
   let (f,first) <- holding [ov] (getMethod ov m pl)
   callWith pos f first (backTo pos (starEach (e::es) X.env)) (backToKw pos (keywordEach [] X.env))):=by rfl):
  PE X (.Call (.Attribute o m apos) (e::es) [] pos) (tMeth C m sp dvs E ta t):=by
 intro pins s Y H Q I h
 refine methodCall_KW (pl:=pl) (thn (he pins s Y H _ I h) λu s1 ⟨x,H1,I1,rx,a,dx,fs,ex,ea,l,q⟩=>?_) ht
 subst ex
 obtain rfl:u=Value.ref a:=rx
 refine getmeth_ok I1 ea c hm l ?_
 refine callWith_K (first:=[.ref a]) (h₀:=X.base) I.ok.mod.kin hm.kp (thn (ha pos pins s1 Y H1 _ I1 q) λus s2 ⟨vs,H2,I2,r,q2⟩=>⟨I2.kIn,?_⟩) hst hpl
 exact run_fn (us:=.ref a::us) (vs:=.ref a::vs) F hr hb hd hx I2 (.cons rfl r) q2
theorem pe_meth0 {pl:Sem Bool}(he:PE X o ta)(c:Cls X.K C)(hm:Meth X.K C m f)(F:FnOk X.prog X.w X.K X.mg X.base CX k f fd ps sp)(hr:Room k X.A)(hb:Binds X.K fd ps ds)(hd:Vals dvs ds)(hx:Passes CX X E)
  (ht:eval (.Call (.Attribute o m apos) [] [] pos) X.env=(do
   let ov <- eval o X.env
   standAt apos.atName
   let (f,first) <- holding [ov] (getMethod ov m pl)
   callWith pos f first (backTo pos (starEach [] X.env)) (backToKw pos (keywordEach [] X.env))):=by rfl):
  PE X (.Call (.Attribute o m apos) [] [] pos) (tMeth C m sp dvs E ta tNil):=by
 intro pins s Y H Q I h
 refine methodCall_KW (pl:=pl) (thn (he pins s Y H _ I h) λu s1 ⟨x,H1,I1,rx,a,dx,fs,ex,ea,l,q⟩=>?_) ht
 subst ex
 obtain rfl:u=Value.ref a:=rx
 refine getmeth_ok I1 ea c hm l ?_
 exact PySem.W.callWith_K0 (first:=[.ref a]) I1.kIn hm.kp (run_fn (us:=[.ref a]) (vs:=[.ref a]) F hr hb hd hx I1 (.cons rfl .nil) q)
structure Mk (K:Frag) (C f:Addr):Prop where
 makes:makesIn K C=true
 init:PySem.W.findIn K (.ref C) "__init__"=some (some (.ref f))
 fn:isFn K (.ref f)=true
 kp:keepIn K (.ref C)=true
theorem run_make {pins:List (Addr×Obj)}{Y:St}{H:Hp}{s:Shared}{Q:VK}{us:List Value}{vs:List V}(M:Mk X.K C f)(F:FnOk X.prog X.w X.K X.mg X.base CX k f fd ps sp)(hr:Room (k+1) X.A)(hb:Binds X.K fd ps ds)(hd:Vals dvs ds)
  (hx:Passes CX X E) (I:Inv X pins Y H s) (r:Vals vs us)
  (h:∀x dx,H x=none->H dx=none->dx≠x->sp (.ref x::(vs++dvs)) (upd (upd H dx (.own x)) x (.ins C dx [])) (λv H2=>v = .non/\Q (.ref x) H2) E):
  wpAny (model X.prog X.w) X.A (call (.ref C) us) (EP X pins Y Q) X.xe s:=by
 have hq:=h (s.heap.objs.size+1) s.heap.objs.size (I.hok.fresh (le_succ _)) (I.hok.fresh (Nat.le_refl _)) (ne_of_lt (Nat.lt_succ_self _))
 have I2:=Inv.made (C:=C) I
 have r2:Vals (V.ref (s.heap.objs.size+1)::(vs++dvs)) (Value.ref (s.heap.objs.size+1)::(us++ds)):=.cons rfl (r.append hd)
 have hl:(Value.ref (s.heap.objs.size+1)::us++ds).length=ps.length:=by
  have e:=r2.length
  rw[F.len _ _ _ _ hq]at e
  exact e.symm
 refine wpAny_call (make_map (f:=f) I.kIn M.makes M.init (beq_iff_eq.mp M.fn) (codeAny_mono (F.run _ X.stack _ _ ⟨Value.ref (s.heap.objs.size+1)::us,[]⟩ (Value.ref (s.heap.objs.size+1)::(us++ds)) _ _ E (hr.make C us [])
  (I2.env0.make C us []) (hb _ (Value.ref (s.heap.objs.size+1)::us) I2.kIn hl) r2 hq) λr s' hq'=>?_))
 cases r with
 |error e=>exact hx pins Y _ _ e s' I2 hq'
 |ok fl=>
  cases fl with
  |ret u=>
   obtain⟨v,H',I3,rv,ev,q3⟩:=I2.after hq'
   subst ev
   exact⟨rv,⟨V.ref (s.heap.objs.size+1),H',I3,rfl,q3⟩⟩
  |next=>exact False.elim hq'
  |brk=>exact False.elim hq'
  |cont=>exact False.elim hq'
theorem pe_make (M:Mk X.K C f)(F:FnOk X.prog X.w X.K X.mg X.base CX k f fd ps sp)(hr:Room (k+1) X.A)(hg:Gl X x)(hm:X.mg x=some (.ref C))(hb:Binds X.K fd ps ds)(hd:Vals dvs ds)(hx:Passes CX X E)
  (ha:PA X (e::es) t) (hdb:(x==("__debug__":Str))=false:=by decide) (he:starEach (e::es) X.env=(false,eval e X.env)::starEach es X.env:=by rfl) (hpl:(backTo pos (starEach es X.env)).any (·.1)=false:=by rfl):
  PE X (.Call (.Name x p) (e::es) [] pos) (tMake C sp dvs E t):=by
 intro pins s Y H Q I h
 refine wpAny_Call_Name_kw (ld_glob I hg hm ?_ hdb)
 refine callWith_K (h₀:=X.base) I.ok.mod.kin M.kp (thn (ha pos pins s Y H _ I h) λus s1 ⟨vs,H1,I1,r,q⟩=>⟨I1.kIn,?_⟩) he hpl
 exact run_make M F hr hb hd hx I1 r q
end
section
variable {X:Cx}{CX:CXT}{k:Nat}{f C:Addr}{fd:FuncData}{ps ks:List Str}{sp:Sp}{E:XK}{x m:Str}{p pos apos kpos:Pos}{e o:Expr}{es:List Expr}{kws:List Keyword}{te ta:TE}{t tk:TA}{nm:Option Str}
variable {g:List Value->List Value->List Value}{gV:List V->List V->List V}
end
structure FnScope (N P:List Str) (sc:Scope):Prop where
 kind:sc.kind = .function
 co:sc.isCoroutine=false
 gen:sc.isGenerator=false
 nd:N.Nodup
 pre:N.take P.length=P
 par:∀x∈P,sc.names.lookup x=some .local∨sc.names.lookup x=some .cell
 nofree:∀y∈sc.names,y.2≠.free
theorem bindL_out {kindOf:Str->Option NameKind}{x:Str}:∀{binds:List (Str×Value)} {m:Str->Option Value},(∀v,(x,v)∉binds)->bindL kindOf binds m x=m x
 | [],_,_=>rfl
 | (n,v)::r,m,h=>by
  unfold bindL
  rw[bindL_out λw hw=>h w (mem_cons_of_mem _ hw)]
  split
  .have:x≠n:=by rintro rfl;exact h v mem_cons_self
   simp[this]
  .rfl
theorem bindC_out {kindOf:Str->Option NameKind}{x:Str}:∀{binds:List (Str×Value)} {m:Str->Option Value},(∀v,(x,v)∉binds)->bindC kindOf binds m x=m x
 | [],_,_=>rfl
 | (n,v)::r,m,h=>by
  unfold bindC
  rw[bindC_out λw hw=>h w (mem_cons_of_mem _ hw)]
  split
  .rfl
  .have:x≠n:=by rintro rfl;exact h v mem_cons_self
   simp[this]
theorem bindL_get {kindOf:Str->Option NameKind}{x:Str}{v:Value}:∀{P:List Str} {vs:List Value} {i:Nat} {m:Str->Option Value},P.Nodup->P[i]?=some x->vs[i]?=some v->kindOf x=some .local->
  bindL kindOf (P.zip vs) m x=some v
 | [],_,_,_,_,h,_,_=>by simp at h
 |_::_,[],_,_,_,_,h,_=>by simp at h
 |p::P,w::vs,0,m,nd,h1,h2,hk=>by
  simp at h1 h2;subst h1;subst h2
  show bindL kindOf ((p,w)::P.zip vs) m p=_
  unfold bindL
  rw[bindL_out λv hv=>(nodup_cons.mp nd).1 (of_mem_zip hv).1,if_pos hk]
  simp
 |p::P,w::vs,i+1,m,nd,h1,h2,hk=>by
  show bindL kindOf ((p,w)::P.zip vs) m x=_
  unfold bindL
  exact bindL_get (i:=i) (nodup_cons.mp nd).2 (by simpa using h1) (by simpa using h2) hk
theorem bindC_get {kindOf:Str->Option NameKind}{x:Str}{v:Value}:∀{P:List Str} {vs:List Value} {i:Nat} {m:Str->Option Value},P.Nodup->P[i]?=some x->vs[i]?=some v->kindOf x≠some .local->
  bindC kindOf (P.zip vs) m x=some v
 | [],_,_,_,_,h,_,_=>by simp at h
 |_::_,[],_,_,_,_,h,_=>by simp at h
 |p::P,w::vs,0,m,nd,h1,h2,hk=>by
  simp at h1 h2;subst h1;subst h2
  show bindC kindOf ((p,w)::P.zip vs) m p=_
  unfold bindC
  rw[bindC_out λv hv=>(nodup_cons.mp nd).1 (of_mem_zip hv).1,if_neg hk]
  simp
 |p::P,w::vs,i+1,m,nd,h1,h2,hk=>by
  show bindC kindOf ((p,w)::P.zip vs) m x=_
  unfold bindC
  exact bindC_get (i:=i) (nodup_cons.mp nd).2 (by simpa using h1) (by simpa using h2) hk
def start (N:List Str)(vs:List V):St:=vs.map some++List.replicate (N.length-vs.length) none
def cxOf (CX:CXT)(P:Program)(w:World)(K:Frag)(mg:Str->Option Value)(base:Heap)(N:List Str)(qual:Str)(scope:Scope)(f:Addr)(cd:Value)(A:Around)(outer:List Env)(s:Shared)(H:Hp)(E:XK):Cx where
 prog:=P
 w:=w
 K:=K
 mg:=mg
 base:=base
 A:=A.deeper (envOfC qual scope s.heap.objs.size f cd)
 N:=N
 s₀:=s
 H₀:=H
 env:=envOfC qual scope s.heap.objs.size f cd
 outer:=outer
 stack:=envOfC qual scope s.heap.objs.size f cd::outer
 ex:=[]
 calm:=true
 fn:=λ_=>true
 pn:=[]
 xe:=λe s'=>wpAny (model P w) (A.deeper (envOfC qual scope s.heap.objs.size f cd)) (leaving (envOfC qual scope s.heap.objs.size f cd) e) (λ_ s''=>CX outer H s E e s'') (λe' s''=>CX outer H s E e' s'') s'
theorem cell_has {sc:Scope}{n:Nat}{x:Str}(h:sc.names.lookup x=some .cell):∃c,(cellsFrom n sc.names []).lookup x=some c:=by
 have q:=PySem.W.cellsFrom_some sc.names n [] (.inl h)
 exact Option.isSome_iff_exists.mp q
theorem inv_start {CX:CXT}{P:Program}{w:World}{K:Frag}{mg:Str->Option Value}{base:Heap}{N ps:List Str}{qual:Str}{scope:Scope}{f:Addr}{cd:Value}{A:Around}{outer:List Env}{s s1:Shared}{H:Hp}{E:XK}{us:List Value}{vs:List V}
  (S:FnScope N ps scope) (hd:A.handled=none) (e0:Env0 P w K mg base A outer s H) (hl:vs.length=ps.length) (r:Vals vs us)
  (x:InCallC s s.heap.objs.size (bindL (envOfC qual scope s.heap.objs.size f cd).kindOf (ps.zip us) λ_=>none) (cellsFrom (s.heap.objs.size+1) scope.names []) (bindC (envOfC qual scope s.heap.objs.size f cd).kindOf (ps.zip us) λ_=>none) s1):
  Inv (cxOf CX P w K mg base N qual scope f cd A outer s H E) [] (start N vs) H s1:=by
 have hpl:ps.length<=N.length:=by have:=congrArg List.length S.pre;rw[length_take]at this;omega
 obtain⟨h1,tk,rfl,hk⟩:=x.done
 have noA:∀b:Addr,b∉(cxOf CX P w K mg base N qual scope f cd A outer s H E).ex:=λb z=>absurd (show b∈([]:List Addr) from z) (by simp)
 refine⟨⟨e0.mod,S.kind,rfl,rfl,Nat.le_refl _,λy z c h1 h2=>?_,λy hy=>?_,λy c _ h=>?_,λ_=>hd,Around.frames_deeper e0.frames,.inr ⟨rfl,rfl⟩,λb z=>absurd z (noA b),e0.bs,e0.bsz,λb _ _=>noA b,λb z=>absurd z (noA b),e0.funs,e0.frf⟩,
  rfl,e0.bare,Un.kept hk,⟨_,x.toInCall.ns,λi y v h1 h2 h3=>?_⟩,λy c h=>⟨_,x.cell y c h⟩,e0.hok.fresh (Nat.le_refl _),λy c h=>?_,λp hp=>absurd (show p∈([]:List (Addr×Obj)) from hp) (by simp),e0.hok.kept hk,?_⟩
 .exact name_of_addr x.apart (PySem.mem_of_lookup h1) (PySem.mem_of_lookup h2)
 .have hy:scope.names.lookup y=some .cell∨scope.names.lookup y=some .free:=hy
  rcases hy with hy |hy
  .exact cell_has hy
  .exact absurd rfl (S.nofree _ (PySem.mem_of_lookup hy))
 .exact le_of_lt (x.above y c (PySem.mem_of_lookup h))
 .have hi:i<vs.length:=by
   unfold start at h2
   by_cases hi:i<vs.length
   .exact hi
   .rw [getElem?_append_right (by simpa using hi)]at h2
    rw[List.getElem?_replicate]at h2
    split at h2<;>cases h2
  have ha:vs[i]?=some v:=by
   unfold start at h2
   rw[getElem?_append_left (by simpa using hi),getElem?_map]at h2
   cases e:vs[i]? with
   |none=>rw[e]at h2;cases h2
   |some a=>rw[e]at h2;cases h2;rfl
  obtain⟨u,hu,rv⟩:=r.get ha
  have hp:ps[i]?=some y:=by
   rw[<- S.pre,List.getElem?_take_of_lt (by omega)];exact h1
  have ndP:ps.Nodup:=by rw[<- S.pre];exact S.nd.sublist (List.take_sublist _ _)
  refine⟨u,rv,?_⟩
  rcases S.par y (mem_of_getElem? hp) with k |k
  .exact .inl ⟨k,bindL_get ndP hp hu k⟩
  .obtain ⟨c,e⟩:=cell_has (n:=s.heap.objs.size+1) k
   refine .inr ⟨.inl k,c,e,?_⟩
   have q:=x.cell y c e
   rw[bindC_get ndP hp hu (by show scope.names.lookup y≠_;rw[k];decide)]at q
   exact q
 .exact e0.hok.fresh (le_of_lt (x.above y c (PySem.mem_of_lookup h)))
 .unfold start
  show _=N.length
  rw[length_append,length_map,length_replicate]
  omega
theorem fn_of {CX:CXT}{P:Program}{w:World}{K:Frag}{mg:Str->Option Value}{base:Heap}{k:Nat}{f:Addr}{name qual:Str}{params:Arguments}{body:List Stmt}{scope:Scope}{dV kV doc pm cdv ct oc:Value}{an od:Option Addr}
  {osl:Array (Option Value)} {N ps:List Str} {sp:Sp} (lk:K.lookup f=some ⟨oc,od,.func (fnOf name qual params body scope dV kV doc pm an cdv ct),osl⟩) (hcd:codeIn K cdv qual=true) (S:FnScope N ps scope)
  (len:∀vs H Q E,sp vs H Q E->vs.length=ps.length)
  (hbody:∀(A:Around) (outer:List Env) (s:Shared) (H:Hp) (vs:List V) (Q:VK) (E:XK),Room k (A.deeper (envOfC qual scope s.heap.objs.size f cdv))->sp vs H Q E->
   ∃t,PSs (cxOf CX P w K mg base N qual scope f cdv A outer s H E) body t/\t {nx:=λ_ H'=>Q .non H',rt:=Q} (start N vs) H):
  FnOk P w K mg base CX (k+1) f (fnOf name qual params body scope dV kV doc pm an cdv ct) ps sp:=by
 refine⟨len,λA outer s H args us vs Q E hr e0 hb r hsp=>?_⟩
 have hl:=len _ _ _ _ hsp
 have KX:K.In s.heap:=e0.mod.kin.keeps λb o e=>(e0.bs b o e).1
 have lim:s.heap.NoLimit:=e0.mod.nolimit.keeps λb o e=>(e0.bs b o e).1
 have hkind:∀y∈ps.zip us,scope.names.lookup y.1=some .local∨(scope.names.lookup y.1=some .cell/\((cellsFrom (s.heap.objs.size+1) scope.names []).lookup y.1).isSome=true):=λ⟨n,v⟩ hy=>by
  rcases S.par n (of_mem_zip hy).1 with q |q
  .exact .inl q
  .exact .inr ⟨q,PySem.W.cellsFrom_some _ _ _ (.inl q)⟩
 refine codeAny_call_function hr.depth (KX _ _ lk) rfl S.co S.gen rfl (PySem.W.codeRec_of KX hcd) (hb _ _ _ _ ?_)
 refine wpAny_newFunctionEnv_cells S.kind hkind λenv he s1 x=>?_
 subst he
 refine⟨lim.keeps x.toInCall.keep,codeAny_func ?_⟩
 obtain⟨t,ht,hq⟩:=hbody A outer s H vs Q E (hr.deeper _) hsp
 have I:Inv (cxOf CX P w K mg base N qual scope f cdv A outer s H E) [] (start N vs) H s1:=inv_start S hr.hd e0 hl r x
 refine wpAny_mono (ht [] s1 (start N vs) H _ I hq) (λfl s' hs=>?_) λe s' hs=>hs
 have fin:∀{Y':St} {H':Hp} {v:V} {u:Value},Inv (cxOf CX P w K mg base N qual scope f cdv A outer s H E) [] Y' H' s'->RelV v u->Q v H'->CE outer P w H s Q u s':=
  λ{Y' H' v u} J rv q=>⟨v,H',J.os,J.bare,J.base,J.hok,rv,q⟩
 cases fl with
 |ret u=>
  obtain⟨v,Y',H',J,rv,q⟩:=hs
  exact fin J rv q
 |next=>
  obtain⟨Y',H',J,q⟩:=hs
  exact fin (v:=V.non) (u:=Value.none) J rfl q
 |brk=>
  obtain⟨_,_,_,q⟩:=hs
  exact False.elim q
 |cont=>
  obtain⟨_,_,_,q⟩:=hs
  exact False.elim q
section
variable {X:Cx}{x:Str}{p pos:Pos}{e:Expr}{es:List Expr}{t:TA}{id T:String}{r:List V->Hp->VK->Prop}
def tCB (r:List V->Hp->VK->Prop)(t:TA):TE:=λY H Q=>t Y H λvs H1=>r vs H1 Q
theorem pe_callB (hc:CallR X (.builtin id) r)(hg:Gl X x)(hm:X.mg x=none)(hv:bootBuiltins x=some (.builtin id))(ha:PA X (e::es) t)(hn:x ≠ "__name__":=by decide)(hdb:(x==("__debug__":Str))=false:=by decide)
  (he:starEach (e::es) X.env=(false,eval e X.env)::starEach es X.env:=by rfl) (hpl:(backTo pos (starEach es X.env)).any (·.1)=false:=by rfl):PE X (.Call (.Name x p) (e::es) [] pos) (tCB r t):=by
 intro pins s Y H Q I h
 refine wpAny_Call_Name_kw (ld_blt I hg hm hv ?_ hn hdb)
 exact PyProof.Rows.callWith_builtin1 (thn (ha pos pins s Y H _ I h) λus s1 ⟨vs,H1,I1,r1,q1⟩=>hc pins s1 Y H1 vs us Q I1 r1 q1) he hpl
theorem pe_callTy (hc:CallR X (.type T) r)(hg:Gl X x)(hm:X.mg x=none)(hv:bootBuiltins x=some (.type T))(ha:PA X (e::es) t)(hn:x ≠ "__name__":=by decide)(hdb:(x==("__debug__":Str))=false:=by decide)
  (he:starEach (e::es) X.env=(false,eval e X.env)::starEach es X.env:=by rfl) (hpl:(backTo pos (starEach es X.env)).any (·.1)=false:=by rfl):PE X (.Call (.Name x p) (e::es) [] pos) (tCB r t):=by
 intro pins s Y H Q I h
 refine wpAny_Call_Name_kw (ld_blt I hg hm hv ?_ hn hdb)
 exact PyProof.Rows.callWith_type1 (thn (ha pos pins s Y H _ I h) λus s1 ⟨vs,H1,I1,r1,q1⟩=>hc pins s1 Y H1 vs us Q I1 r1 q1) he hpl
end
end L2
namespace HT
open PySem PyProof.Rows
section
open PySem.SeqAt
open PySem.AutoSeq1 (wpAny_loadPart')
open PySem.MeetsSeq PySem.MeetsSeq2 PySem.MeetsSeq3
end
section
variable {prog:Program}{w:World}{A:Around}{E:Value->Shared->Prop}{s:Shared}
theorem cat_tup {t b:Addr}{vs ws:List Value}{Q:Value->Shared->Prop}(ht:IsTup s.heap t vs.toArray)(hb:IsTup s.heap b ws.toArray)(hv:vs≠[])
  (h1:ws=[]->Q (.ref t) s) (h2:ws≠[]->Q (.ref s.heap.objs.size) {s with heap:=s.heap.push {cls:=.type "tuple",data:=.seq (vs++ws).toArray}})
  (hsz:vs.length+ws.length<=sizeLine):wpAny (model prog w) A (binaryOp .Add (.ref t) (.ref b)) Q E s:=by
 obtain⟨⟨cls,dd,data,sl⟩,ho,hc,n,hd⟩:=id ht
 obtain⟨⟨cls2,dd2,data2,sl2⟩,ho2,hc2,n2,hd2⟩:=id hb
 simp only at hc hd hc2 hd2
 subst hc hd hc2 hd2
 have e:vs.toArray++ws.toArray=(vs++ws).toArray:=by simp
 by_cases hw:ws=[]
 .exact concat_meets ⟨_,ho,rfl⟩ ⟨_,ho2,rfl⟩ noFill_tuple_add seq_tuple_add PySem.F.slot_tuple_add PySem.F.entry_tuple_add (PySem.F.args_tuple_add_2 _ _)
   (tuple_addW1 t b vs.toArray ws.toArray n n2 dd dd2 sl sl2 (by simpa using hv) (by simp[hw])) ⟨ho,ho2,h1 hw⟩
 .refine concat_meets ⟨_,ho,rfl⟩ ⟨_,ho2,rfl⟩ noFill_tuple_add seq_tuple_add PySem.F.slot_tuple_add PySem.F.entry_tuple_add (PySem.F.args_tuple_add_2 _ _)
   (tuple_addW2 t b vs.toArray ws.toArray n n2 dd dd2 sl sl2 (by simpa using hv) (by simpa using hw) (by rw[size_toArray,size_toArray];exact hsz)) ⟨ho,ho2,?_⟩
  rw[e]
  exact h2 hw
def sIx (n d:Nat):Option Int->Nat
 |none=>d
 |some v=>if v<0 then (v+(n:Int)).toNat else min v.toNat n
theorem sIx_nat (n d k:Nat):sIx n d (some (k:Int))=min k n:=by
 show (if (k:Int)<0 then ((k:Int)+(n:Int)).toNat else min (k:Int).toNat n)=min k n
 rw[if_neg (by omega),toNat_natCast]
end
end HT
namespace L2
open PySem PySem.Spec PyProof.Rows
abbrev TO:=St->Hp->(Option Int->Hp->Prop)->Prop
def PO (X:Cx)(e:Option Expr)(t:TO):Prop:=
 ∀(pins:List (Addr×Obj)) (s:Shared) (Y:St) (H:Hp) (Q:Option Int->Hp->Prop),Inv X pins Y H s->t Y H Q->
  wpAny (model X.prog X.w) X.A (evalPart e X.env) (λu s'=>∃o H',Inv X pins Y H' s'/\IsPart u o/\Q o H') X.xe s
def tNoPart:TO:=λ_ H Q=>Q none H
def tPart (t:TE):TO:=λY H Q=>t Y H λx H1=>∃i,x = .int i/\Q (some i) H1
section
variable {X:Cx}{e:Expr}{te:TE}{lo hi:Option Expr}{tl th:TO}{pos p2:Pos}
theorem po_none:PO X none tNoPart:=by
 intro pins s Y H Q I h
 rw[evalPart_none]
 exact wpAny_pure ⟨none,H,I,.none,h⟩
theorem po_some (h:PE X e te):PO X (some e) (tPart te):=by
 intro pins s Y H Q I hw
 rw[evalPart_some]
 refine thn (h pins s Y H _ I hw) λu s1 ⟨x,H1,I1,r1,q1⟩=>?_
 obtain⟨i,rfl,q⟩:=q1
 obtain⟨t,rfl⟩:=r1
 exact⟨some i,H1,I1,.int i t,q⟩
def SlR (X:Cx)(r:V->Option Int->Option Int->Hp->VK->Prop):Prop:=
 ∀(pins:List (Addr×Obj)) (s:Shared) (Y:St) (H:Hp) (x:V) (v vl vu:Value) (lo hi:Option Int) (sl:Addr) (Q:VK),Inv X pins Y H s->RelV x v->s.heap.IsSliceOf sl vl vu .none->IsPart vl lo->IsPart vu hi->r x lo hi H Q->
  ∃T id,typeLookup (.type T) "__getitem__"=pure (some (.builtin id))/\s.TypeIs v T/\wpAny (model X.prog X.w) X.A (getItem v (.ref sl)) (EP X pins Y Q) X.xe s
def tSl (r:V->Option Int->Option Int->Hp->VK->Prop)(te:TE)(tl th:TO):TE:=λY H Q=>te Y H λx H1=>tl Y H1 λl H2=>th Y H2 λu H3=>r x l u H3 Q
theorem pe_slice {r:V->Option Int->Option Int->Hp->VK->Prop}(hr:SlR X r)(he:PE X e te)(hl:PO X lo tl)(hu:PO X hi th):PE X (.Subscript e (.Slice lo hi none p2) pos) (tSl r te tl th):=by
 intro pins s Y H Q I h
 refine Subscript_ (thn (he pins s Y H _ I h) λv s1 ⟨x,H1,I1,r1,q1⟩=>?_)
 refine wpAny_Slice (thn (hl pins s1 Y H1 _ I1 q1) λvl s2 ⟨l,H2,I2,pl,q2⟩=>thn (hu pins s2 Y H2 _ I2 q2) λvu s3 ⟨u,H3,I3,pu,q3⟩=>?_)
 rw[evalPart_none]
 refine wpAny_pure ?_
 have I4:Inv X pins Y H3 {s3 with heap:=s3.heap.push {cls:=.type "slice",data:=.fields #[vl,vu,.none]}}:=I3.kept (t':=s3.toks) λb ob q=>get?_push_of_some _ q
 obtain⟨T,id,hT,ht,hg⟩:=hr pins {s3 with heap:=s3.heap.push {cls:=.type "slice",data:=.fields #[vl,vu,.none]}} Y H3 x v vl vu l u s3.heap.objs.size Q I4 r1 (Heap.IsSliceOf.new ..) pl pu q3
 show wpAny (model X.prog X.w) X.A (subscriptTail e (.Slice lo hi none p2) v (.ref s3.heap.objs.size)) (EP X pins Y Q) X.xe {s3 with heap:=s3.heap.push {cls:=.type "slice",data:=.fields #[vl,vu,.none]}}
 exact tail_any (ops:=[.ref s3.heap.objs.size,v]) ht hT hg (by with_unfolding_all rfl)
def cutV (xs:List V)(lo hi:Option Int):List V:=(xs.drop (HT.sIx xs.length 0 lo)).take (HT.sIx xs.length xs.length hi-HT.sIx xs.length 0 lo)
theorem cutV_length (xs:List V)(lo hi:Option Int):(cutV xs lo hi).length<=xs.length:=by
 unfold cutV
 rw[length_take,length_drop]
 omega
def rCatT (K:Frag):R2:=λx y H Q=>∃a b xs ys,x = .ref a/\y = .ref b/\SqT K H a xs/\SqT K H b ys/\xs≠[]/\xs.length+ys.length<=sizeLine/\
 (ys=[]->Q (.ref a) H)/\(ys≠[]->∀p,H p=none->Q (.ref p) (upd H p (.tup (xs++ys))))
theorem Vals.nil_iff {xs:List V}{us:List Value}(r:Vals xs us):us=[]↔xs=[]:=by
 cases r with
 |nil=>simp
 |cons _ _=>simp
theorem op_catT:OpR X (binaryOp .Add) (rCatT X.K):=by
 intro pins s Y H x y v u Q I rx ry h
 obtain⟨a,b,xs,ys,rfl,rfl,ha,hb,hx,hz,q1,q2⟩:=h
 cases rx
 cases ry
 obtain⟨its,r1,p1,_⟩:=I.tuple ha
 obtain⟨its2,r2,p2,_⟩:=I.tuple hb
 refine HT.cat_tup p1 p2 (λz=>hx (r1.nil_iff.mp z)) (λz=>⟨.ref a,H,I,rfl,q1 (r2.nil_iff.mp z)⟩) (λz=>?_) (by rw[<- r1.length,<- r2.length];exact hz)
 refine⟨.ref s.heap.objs.size,_,I.laid (t':=s.toks) (o:=.tup (xs++ys)) (λb ob q=>get?_push_of_some _ q) (Nat.le_refl _) ?_,rfl,q2 (λw=>z (r2.nil_iff.mpr w)) _ (I.hok.fresh (Nat.le_refl _))⟩
 exact⟨by rw[length_append];exact hz,_,r1.append r2,IsTup.new _ _⟩
end
def ixN (n:Nat)(i:Int):Option Nat:=if 0<=i then (if i<n then some i.toNat else none) else if -(n:Int)<=i then some (i+n).toNat else none
def atI {α:Type}(xs:List α)(i:Int):Option α:=(ixN xs.length i).bind λj=>xs[j]?
theorem ixN_seq {n:Nat}{i:Int}{j:Nat}(h:ixN n i=some j):seqIndex? i n=some j/\j<n/\-(n:Int)<=i/\i<n:=by
 unfold ixN at h
 by_cases h0:0<=i
 .rw [if_pos h0]at h
  by_cases h1:i<n
  .rw [if_pos h1]at h
   have e:i.toNat=j:=Option.some.inj h
   exact⟨by rw[seqIndex_of h0 h1,e],by omega,by omega,h1⟩
  .rw [if_neg h1]at h;cases h
 .rw [if_neg h0]at h
  by_cases h1 : -(n:Int)<=i
  .rw [if_pos h1]at h
   have e:(i+n).toNat=j:=Option.some.inj h
   exact⟨by rw[seqIndex_neg (by omega) h1,e],by omega,h1,by omega⟩
  .rw [if_neg h1]at h;cases h
theorem atI_get {α:Type}{xs:List α}{i:Int}{v:α}(h:atI xs i=some v):∃j,seqIndex? i xs.length=some j/\xs[j]?=some v/\j<xs.length/\-(xs.length:Int)<=i/\i<xs.length:=by
 unfold atI at h
 cases e:ixN xs.length i with
 |none=>rw[e]at h;cases h
 |some j=>
  rw[e]at h
  obtain⟨h1,h2,h3,h4⟩:=ixN_seq e
  exact⟨j,h1,h,h2,h3,h4⟩
theorem atI_nat {α:Type}{xs:List α}{j:Nat}{v:α}(h:xs[j]?=some v):atI xs (j:Int)=some v:=by
 have hj:j<xs.length:=(List.getElem?_eq_some_iff.mp h).1
 have e:ixN xs.length (j:Int)=some j:=by
  unfold ixN
  rw[if_pos (by omega),if_pos (by omega)];simp
 unfold atI;rw[e];exact h
def PlainIx (b:Expr):Prop:=∀o i,subscripted b false o i=operate [o,i] (getItem o i)
def IxR (X:Cx)(r:R2):Prop:=
 ∀(value slice:Expr) (pins:List (Addr×Obj)) (s:Shared) (Y:St) (H:Hp) (x y:V) (v u:Value) (Q:VK),Inv X pins Y H s->RelV x v->RelV y u->r x y H Q->
  subscripted slice false v u=operate [v,u] (getItem v u)->wpAny (model X.prog X.w) X.A (subscriptTail value slice v u) (EP X pins Y Q) X.xe s
def MtR (X:Cx)(id:String)(r:V->List V->Hp->VK->Prop):Prop:=
 ∀(pins:List (Addr×Obj)) (s:Shared) (Y:St) (H:Hp) (x:V) (xs:List V) (v:Value) (us:List Value) (Q:VK),Inv X pins Y H s->RelV x v->Vals xs us->r x xs H Q->
  wpAny (model X.prog X.w) X.A (call (.builtin id) (v::us)) (EP X pins Y Q) X.xe s
section
variable {X:Cx}{a b:Expr}{ta tb:TE}{pos:Pos}
theorem pe_ix {r:R2}(hr:IxR X r)(ha:PE X a ta)(hb:PE X b tb)(hs:PlainIx b):PE X (.Subscript a b pos) (tOp r ta tb):=by
 intro pins s Y H Q I h
 exact Subscript_ (binT ha hb I h λv u s2 x y H2 I2 rx ry q=>hr a b pins s2 Y H2 x y v u Q I2 rx ry q (hs _ _))
def rIxL (K:Frag):R2:=λx y H Q=>∃p xs i v,x = .ref p/\y = .int i/\SqL K H p xs/\atI xs i=some v/\Q v H
def rIxT (K:Frag):R2:=λx y H Q=>∃p xs i v,x = .ref p/\y = .int i/\SqT K H p xs/\atI xs i=some v/\Q v H
theorem ix_list:IxR X (rIxL X.K):=by
 intro value slice pins s Y H x y v u Q I rx ry h hs
 obtain⟨p,xs,i,z,rfl,rfl,hq,he,q⟩:=h
 cases rx
 obtain⟨t,rfl⟩:=ry
 obtain⟨its,r,pl,hz⟩:=I.list hq
 obtain⟨j,h1,h2,h3,h4,h5⟩:=atI_get he
 obtain⟨w,ew,rw'⟩:=r.get h2
 have hl:=r.length
 have hn:=line63
 have fin:EP X pins Y Q w s:=⟨z,H,I,rw',q⟩
 by_cases h0:0<=i
 .have hj:i.toNat=j:=by
   rw[seqIndex_of h0 h5]at h1
   exact Option.some.inj h1
  exact item_listR pl.isList h0 (by omega) (by rw[hj];simpa using ew) fin hs
 .have hj:(i+(its.toArray.size:Int)).toNat=j:=by
   rw[seqIndex_neg (by omega) h4]at h1
   rw[size_toArray,<- hl]
   exact Option.some.inj h1
  exact subscriptTail_builtinR (x:=w) pl.isList.typeIs slot_list_getitem.lookup
   (wpAny_getItem_list_neg (Q:=λr s'=>r=w/\EP X pins Y Q r s') pl.isList (by omega) (by rw[size_toArray]<;>omega) (by omega) (by rw[hj];simpa using ew) ⟨rfl,fin⟩) hs
theorem ix_tup:IxR X (rIxT X.K):=by
 intro value slice pins s Y H x y v u Q I rx ry h hs
 obtain⟨p,xs,i,z,rfl,rfl,hq,he,q⟩:=h
 cases rx
 obtain⟨t,rfl⟩:=ry
 obtain⟨its,r,pl,hz⟩:=I.tuple hq
 obtain⟨j,h1,h2,h3,h4,h5⟩:=atI_get he
 obtain⟨w,ew,rw'⟩:=r.get h2
 have hl:=r.length
 have hn:=line63
 have fin:EP X pins Y Q w s:=⟨z,H,I,rw',q⟩
 exact subscriptTail_builtinR (x:=w) pl.typeIs slot_tuple_getitem.lookup
  (getItem_tuple (j:=j) (Q:=λr s'=>r=w/\EP X pins Y Q r s') pl (by omega) (by omega) (by rw[size_toArray,<- hl];exact h1) (by simpa using ew) ⟨rfl,fin⟩) hs
theorem Inv.lst {pins:List (Addr×Obj)}{Y:St}{H:Hp}{s:Shared}{p:Addr}{xs:List V}(I:Inv X pins Y H s)(h:H p=some (.lst xs)):
  ∃(its:List Value) (n:Nat),Vals xs its/\s.heap.get? p=some {cls:=.type "list",data:=.seq its.toArray n}/\xs.length<=sizeLine:=by
 obtain⟨z,its,n,r,e⟩:=I.hok p _ h
 exact⟨its,n,r,e,z⟩
theorem slice_bounds (lo hi:Option Int)(n:Nat):(sliceBounds lo hi none n).1=((HT.sIx n 0 lo:Nat):Int)/\(sliceBounds lo hi none n).2.1=((HT.sIx n n hi:Nat):Int)/\(sliceBounds lo hi none n).2.2=1:=by
 refine⟨?_,?_,rfl⟩
 .cases lo with
  |none=>simp[sliceBounds,HT.sIx]
  |some i=>
   simp only[sliceBounds,HT.sIx,getD_none,show (1:Int) > 0 by decide,if_true]
   by_cases h:i<0
   .simp only[h,if_true]<;>omega
   .simp only[h,if_false]<;>omega
 .cases hi with
  |none=>simp[sliceBounds,HT.sIx]
  |some i=>
   simp only[sliceBounds,HT.sIx,getD_none,show (1:Int) > 0 by decide,if_true]
   by_cases h:i<0
   .simp only[h,if_true]<;>omega
   .simp only[h,if_false]<;>omega
theorem slicePick_cut (its:List Value)(lo hi:Option Int):slicePick its.toArray lo hi none=((its.drop (HT.sIx its.length 0 lo)).take (HT.sIx its.length its.length hi-HT.sIx its.length 0 lo)).toArray:=by
 obtain⟨h1,h2,h3⟩:=slice_bounds lo hi its.toArray.size
 unfold slicePick
 rw[h1,h2,h3]
 simp only[sliceRange_one,pick_run,size_toArray]<;>rfl
def rSlL (K:Frag):V->Option Int->Option Int->Hp->VK->Prop:=λx lo hi H Q=>∃a xs,x = .ref a/\SqL K H a xs/\∀p,H p=none->Q (.ref p) (upd H p (.lst (cutV xs lo hi)))
theorem sl_list:SlR X (rSlL X.K):=by
 intro pins s Y H x v vl vu lo hi sl Q I rx hs pl pu h
 obtain⟨a,xs,rfl,hx,q⟩:=h
 cases rx
 obtain⟨its,r,ht,hz⟩:=I.list hx
 have hlen:=r.length
 refine⟨"list",_,slot_list_getitem.lookup,ht.isList.typeIs,?_⟩
 refine wpAny_getItem_list_slice ht.isList hs pl pu .none (by simp) ?_ (by rw[size_toArray]<;>omega)
 rw[slicePick_cut,<- hlen]
 refine⟨.ref s.heap.objs.size,_,I.laid (t':=s.toks) (o:=.lst (cutV xs lo hi)) (λb ob q=>get?_push_of_some _ q) (Nat.le_refl _) ?_,rfl,q _ (I.hok.fresh (Nat.le_refl _))⟩
 exact⟨le_trans (cutV_length xs lo hi) hz,_,0,(r.drop (HT.sIx xs.length 0 lo)).take (HT.sIx xs.length xs.length hi-HT.sIx xs.length 0 lo),get?_push_size _ rfl⟩
def flatV:V->Bool
 | .non=>true
 | .bl _=>true
 | .int _=>true
 | .str _=>true
 |_=>false
def eqV:V->V->Bool
 | .non,.non=>true
 | .bl a,.bl b=>a==b
 | .bl a,.int b=>(if a then 1 else 0)==b
 | .int a,.bl b=>a==(if b then 1 else 0)
 | .int a,.int b=>a==b
 | .str a,.str b=>a==b
 |_,_=>false
theorem eqAt_V {A:Around}{s:Shared}{y x:V}{u v:Value}(ry:RelV y u)(rx:RelV x v)(fy:flatV y=true)(fx:flatV x=true):SeqAt.EqAt A s u v (eqV y x):=by
 cases y with
 |non=>
  cases ry
  cases x with
  |non=>cases rx;exact SeqAt.EqAt.same _
  |bl b=>cases rx;exact SeqAt.EqAt.none_bool b
  |int b=>obtain⟨t,rfl⟩:=rx;exact SeqAt.EqAt.none_int b t
  |str b=>obtain⟨t,rfl⟩:=rx;exact SeqAt.EqAt.none_str b t
  |_=>exact absurd (show false=true from fx) Bool.false_ne_true
 |bl a=>
  cases ry
  cases x with
  |non=>cases rx;exact SeqAt.EqAt.bool_none a
  |bl b=>cases rx;exact SeqAt.EqAt.bool_bool a b
  |int b=>obtain⟨t,rfl⟩:=rx;exact SeqAt.EqAt.bool_int a b t
  |str b=>obtain⟨t,rfl⟩:=rx;exact SeqAt.EqAt.bool_str a b t
  |_=>exact absurd (show false=true from fx) Bool.false_ne_true
 |int a=>
  obtain⟨t',rfl⟩:=ry
  cases x with
  |non=>cases rx;exact SeqAt.EqAt.int_none a t'
  |bl b=>cases rx;exact SeqAt.EqAt.int_bool a t' b
  |int b=>obtain⟨t,rfl⟩:=rx;exact SeqAt.EqAt.int_int a t' b t
  |str b=>obtain⟨t,rfl⟩:=rx;exact SeqAt.EqAt.int_str a t' b t
  |_=>exact absurd (show false=true from fx) Bool.false_ne_true
 |str a=>
  obtain⟨t',rfl⟩:=ry
  cases x with
  |non=>cases rx;exact SeqAt.EqAt.str_none a t'
  |bl b=>cases rx;exact SeqAt.EqAt.str_bool a t' b
  |int b=>obtain⟨t,rfl⟩:=rx;exact SeqAt.EqAt.str_int a t' b t
  |str b=>obtain⟨t,rfl⟩:=rx;exact SeqAt.EqAt.str_str a t' b t
  |_=>exact absurd (show false=true from fx) Bool.false_ne_true
 |_=>exact absurd (show false=true from fy) Bool.false_ne_true
theorem call_len_seq:CallR X (.builtin "len") (λxs H Q=>∃p ys,xs=[.ref p]/\(SqL X.K H p ys∨SqT X.K H p ys)/\Q (.int ys.length) H):=by
 intro pins s Y H xs us Q I r h
 obtain⟨p,ys,rfl,hq,q⟩:=h
 obtain⟨u,rfl,rx⟩:=vals1 r
 cases rx
 have hn:=line63
 rcases hq with hq |hq
 .obtain ⟨its,r',pl,hz⟩:=I.list hq
  have hlen:=r'.length
  exact Calls.call_len_list pl.isList (by simp only[size_toArray]<;>omega) ⟨.int ys.length,H,I.tok _,⟨s.toks+1,by rw[size_toArray,hlen]⟩,q⟩
 .obtain ⟨its,r',pl,hz⟩:=I.tuple hq
  have hlen:=r'.length
  exact len_tuple pl (by simp only[size_toArray]<;>omega) ⟨.int ys.length,H,I.tok _,⟨s.toks+1,by rw[size_toArray,hlen]⟩,q⟩
theorem call_len_str:CallR X (.builtin "len") (λxs H Q=>∃z,xs=[.str z]/\z.length<=sizeLine/\Q (.int z.length) H):=by
 intro pins s Y H xs us Q I r h
 obtain⟨z,rfl,hz,q⟩:=h
 obtain⟨u,rfl,t,rfl⟩:=vals1 r
 have hn:=line63
 exact len_str (by omega) ⟨.int z.length,H,I.tok _,⟨_,rfl⟩,q⟩
theorem call_tuple_of:CallR X (.type "tuple") (λxs H Q=>∃p ys,xs=[.ref p]/\((SqL X.K H p ys/\∀l,H l=none->Q (.ref l) (upd H l (.tup ys)))∨(SqT X.K H p ys/\Q (.ref p) H))):=by
 intro pins s Y H xs us Q I r h
 obtain⟨p,ys,rfl,h⟩:=h
 obtain⟨u,rfl,rx⟩:=vals1 r
 cases rx
 rcases h with⟨hq,q⟩ | ⟨hq,q⟩
 .obtain ⟨its,r',pl,hz⟩:=I.list hq
  have hlen:=r'.length
  refine call_tuple_list pl.isList (λh' kp=>?_) (by simp only[size_toArray]<;>omega)
  have I1:Inv X pins Y H {s with heap:=h'}:=I.kept (t':=s.toks) kp
  have I2:Inv X pins Y (upd H h'.objs.size (.tup ys)) {s with heap:=h'.push {cls:=.type "tuple",data:=.seq its.toArray}}:=
   I1.laid (t':=s.toks) (λb o e=>get?_push_of_some _ e) (Nat.le_refl _) (show ObjOk X.prog X.w _ _ _ (.tup ys) from⟨hz,its,r',IsTup.new _ _⟩)
  exact⟨.ref h'.objs.size,_,I2,rfl,q _ (I1.hok.fresh (Nat.le_refl _))⟩
 .obtain ⟨its,r',pl,hz⟩:=I.tuple hq
  exact call_tuple_same pl ⟨.ref p,H,I,rfl,q⟩
def tyV (K:Frag)(T:String)(x:V)(H:Hp):Prop:=match x with
 | .str _=>T = "str"
 | .int _=>T = "int"
 | .ref p=>(T = "list"/\∃xs,SqL K H p xs)∨(T = "tuple"/\∃o,K.lookup p=some o/\o.cls = .type "tuple"/\o.dict=none)∨
   (T = "dict"/\((∃kvs,H p=some (.dK kvs))∨∃kvs,H p=some (.dT kvs)))∨(T = "set"/\∃S n,H p=some (.set S n))
 |_=>False
theorem tyV_is {pins:List (Addr×Obj)}{Y:St}{H:Hp}{s:Shared}{T:String}{x:V}{v:Value}(I:Inv X pins Y H s)(r:RelV x v)(ty:tyV X.K T x H):
  s.TypeIs v T/\∀a,v = .ref a->∃ob,s.heap.get? a=some ob/\ob.dict=none:=by
 cases x with
 |str z=>
  obtain⟨t,rfl⟩:=r
  cases (show T = "str" from ty)
  exact⟨typeIs_str s z t,λ_ e=>nomatch e⟩
 |int i=>
  obtain⟨t,rfl⟩:=r
  cases (show T = "int" from ty)
  exact⟨typeIs_int s i t,λ_ e=>nomatch e⟩
 |ref p =>
  cases r
  rcases ty with⟨rfl,xs,hq⟩ | ⟨rfl,o,hk,hc,hd⟩ | ⟨rfl,hk⟩ | ⟨rfl,S,n,hk⟩
  .obtain ⟨its,_,pl,_⟩:=I.list hq
   refine⟨pl.isList.typeIs,λa e=>?_⟩
   cases e
   obtain⟨o,n,e,c,hd,_⟩:=pl
   exact⟨o,e,hd⟩
  .refine ⟨⟨o,I.kIn p o hk,hc⟩,λa e=>?_⟩
   cases e
   exact⟨o,I.kIn _ o hk,hd⟩
  .have z:∃o,s.heap.get? p=some o/\o.ExactDict:=by
    rcases hk with⟨kvs,hk⟩ | ⟨kvs,hk⟩
    .obtain ⟨_,_,_,_,o,_,_,e,ex,_⟩:=I.hok p _ hk
     exact⟨o,e,ex⟩
    .obtain ⟨_,_,_,_,o,_,_,e,ex,_⟩:=I.hok p _ hk
     exact⟨o,e,ex⟩
   obtain⟨o,e,ex⟩:=z
   refine⟨⟨o,e,ex.1⟩,λa e2=>?_⟩
   cases e2
   exact⟨o,e,ex.2.1⟩
  .obtain ⟨o,_,_,_,e,ex,_⟩:=I.hok p _ hk
   refine⟨⟨o,e,ex.1⟩,λa e2=>?_⟩
   cases e2
   exact⟨o,e,ex.2.1⟩
 |_=>exact False.elim ty
def tBM0 (K:Frag)(T:String)(r:V->List V->Hp->VK->Prop)(to:TE):TE:=λY H Q=>to Y H λx H1=>tyV K T x H1/\r x [] H1 Q
def tBM (K:Frag)(T:String)(r:V->List V->Hp->VK->Prop)(to:TE)(t:TA):TE:=λY H Q=>to Y H λx H1=>tyV K T x H1/\t Y H1 λxs H2=>r x xs H2 Q
variable {o e:Expr}{es:List Expr}{to:TE}{t:TA}{name:Str}{apos cpos:Pos}{T id:String}{r:V->List V->Hp->VK->Prop}
theorem pe_bm0 (pa:PlainAttrs T)(slot:Slot T name id)(hty:typeOf (.builtin id)=pure (.type "method_descriptor"))(hm:MtR X id r)(ho:PE X o to)
  (hbase:attributeBase o name X.env (eval o X.env)=eval o X.env:=by rfl) (hline:(apos.endLine==cpos.line)=true:=by rfl):PE X (.Call (.Attribute o name apos) [] [] cpos) (tBM0 X.K T r to):=by
 intro pins s Y H Q I h
 refine wpAny_Call_method0_late hbase hline (thn (ho pins s Y H _ I h) λv s1 ⟨x,H1,I1,r1,ty,q1⟩=>?_)
 obtain⟨h1,h2⟩:=tyV_is I1 r1 ty
 exact⟨T,id,pa,slot,hty,h1,h2,Calls.callWith_builtin rfl (PySem.evalArgs_none (hm pins s1 Y H1 x [] v [] Q I1 r1 .nil q1))⟩
theorem pe_bm (pa:PlainAttrs T)(slot:Slot T name id)(hty:typeOf (.builtin id)=pure (.type "method_descriptor"))(hm:MtR X id r)(ho:PE X o to)(ha:PA X (e::es) t)
  (hbase:attributeBase o name X.env (eval o X.env)=eval o X.env:=by rfl)
  (hfew:((backTo cpos (starEach (e::es) X.env)).all (λx => !x.1) && (backToKw cpos (keywordEach [] X.env)).all (λx=>x.1.isSome)
   && decide ((e::es).length+([]:List Keyword).length+(if ([]:List Keyword).isEmpty then 0 else 1)<30))=true:=by rfl)
  (hline:(apos.endLine==cpos.line)=true:=by rfl) (hs:starEach (e::es) X.env=(false,eval e X.env)::starEach es X.env:=by rfl) (hplain:(backTo cpos (starEach es X.env)).any (·.1)=false:=by rfl):
  PE X (.Call (.Attribute o name apos) (e::es) [] cpos) (tBM X.K T r to t):=by
 intro pins s Y H Q I h
 refine wpAny_Call_method_late hbase hfew hline rfl (thn (ho pins s Y H _ I h) λv s1 ⟨x,H1,I1,r1,ty,q1⟩=>?_)
 obtain⟨h1,h2⟩:=tyV_is I1 r1 ty
 refine⟨T,id,pa,slot,hty,h1,h2,?_⟩
 have hA:=ha cpos pins s1 Y H1 _ I1 q1
 rw[hs]at hA ⊢
 refine Calls.callWith_builtin (by show (false || (backTo cpos (starEach es X.env)).any (·.1))=false;rw[hplain]<;>rfl) (Calls.evalArgs_plain ?_)
 exact thn hA λus s2 ⟨vs,H2,I2,r2,q2⟩=>hm pins s2 Y H2 x vs v us Q I2 r1 r2 q2
end
def MtM (X:Cx)(id:String)(r:V->List V->Hp->VK->Prop):Prop:=
 ∀(pins:List (Addr×Obj)) (s:Shared) (Y:St) (H:Hp) (x:V) (xs:List V) (v:Value) (us:List Value) (Q:VK),Inv X pins Y H s->RelV x v->Vals xs us->r x xs H Q->
  wpAny (model X.prog X.w) X.A (call (.builtin id) (v::us)) (EP X pins Y Q) X.xe s
theorem Vals.one:∀{x:V} {us:List Value},Vals [x] us->∃u,us=[u]/\RelV x u
 |_,_,.cons r .nil=>⟨_,rfl,r⟩
theorem Vals.zero:∀{us:List Value},Vals [] us->us=[]
 |_,.nil=>rfl
theorem Vals.dropLast {xs:List V}{us:List Value}(h:Vals xs us):Vals xs.dropLast us.dropLast:=by
 induction h with
 |nil=>exact .nil
 |cons r t ih=>
  cases t with
  |nil=>exact .nil
  |cons q t'=>exact .cons r ih
theorem Vals.rep {xs:List V}{us:List Value}(h:Vals xs us):∀k:Nat,Vals (List.replicate k xs).flatten (List.replicate k us).flatten
 | 0=>.nil
 |k+1=>by
  rw[replicate_succ,replicate_succ,flatten_cons,flatten_cons]
  exact Vals.append h (Vals.rep h k)
theorem erase_last {α:Type}(l:List α):l.eraseIdx (l.length-1)=l.dropLast:=by
 induction l with
 |nil=>rfl
 |cons a r ih=>
  cases r with
  |nil=>rfl
  |cons b r=>
   have e:(a::b::r).length-1=((b::r).length-1)+1:=by
    have h1:(a::b::r).length=r.length+2:=rfl
    have h2:(b::r).length=r.length+1:=rfl
    omega
   rw[e,List.eraseIdx_cons_succ,ih]
   all_goals rfl
theorem foldl_rep (its:List Value):∀(k:Nat) (acc:List Value),
  List.foldl (λx1 x2=>x1++x2) acc.toArray (List.replicate k its.toArray)=(acc++(List.replicate k its).flatten).toArray
 | 0,acc=>by simp
 |k + 1,acc=>by
  have e:acc.toArray++its.toArray=(acc++its).toArray:=by simp
  have e2:(acc++its)++(List.replicate k its).flatten=acc++(List.replicate (k+1) its).flatten:=by
   rw[replicate_succ,flatten_cons,append_assoc]
  rw[<- e2,<- foldl_rep its k (acc++its),<- e,replicate_succ,foldl_cons]
section
variable {X:Cx}{pins:List (Addr×Obj)}{Y:St}{H:Hp}{s:Shared}{l b:Addr}{xs ys zs:List V}
theorem Inv.lset {its its':List Value}{n:Nat}{f:Array Value->Array Value}{t':Nat}(I:Inv X pins Y H s)(hH:H l=some (.lst xs))
  (e:s.heap.get? l=some {cls:=.type "list",data:=.seq its.toArray n}) (hf:f its.toArray=its'.toArray) (hv:Vals ys its') (hz:ys.length<=sizeLine):
  Inv X pins Y (upd H l (.lst ys)) {s with heap:=s.heap.update l (Obj.mapSeq f),toks:=t'}:=by
 have q:=PySem.IsL.update e f
 rw[hf]at q
 refine I.write (x:=l) (e:=l) (by rw[hH];exact trivial) (.inl rfl) (λb' u hb hu=>(Heap.get?_update_other s.heap (Obj.mapSeq f) (Ne.symm hb)).trans hu) ⟨_,q⟩ ?_
 exact⟨hz,its',_,hv,q⟩
theorem Inv.lnew {its:List Value}{t':Nat}(I:Inv X pins Y H s)(hv:Vals ys its)(hz:ys.length<=sizeLine):
  Inv X pins Y (upd H s.heap.objs.size (.lst ys)) {s with heap:=s.heap.push {cls:=.type "list",data:=.seq its.toArray},toks:=t'}:=
 I.laid (λ_ _ q=>get?_push_of_some _ q) (Nat.le_refl _) ⟨hz,its,0,hv,get?_push_size _ rfl⟩
theorem Inv.fresh (I:Inv X pins Y H s):H s.heap.objs.size=none:=I.hok.fresh (Nat.le_refl _)
theorem Inv.lstM (I:Inv X pins Y H s)(hH:H l=some (.lst xs)):xs.length<=sizeLine/\∃(its:List Value) (n:Nat),Vals xs its/\xs.length=its.length/\s.heap.get? l=some {cls:=.type "list",data:=.seq its.toArray n}:=by
 obtain⟨z,its,n,r,e⟩:=I.hok l _ hH
 exact⟨z,its,n,r,r.length,e⟩
theorem notLongL {n:Nat}(h:n<=sizeLine):Builtin.List.listTooLong n=false:=by
 unfold Builtin.List.listTooLong
 exact decide_eq_false (by omega)
end
section
variable {X:Cx}
def rAppend:V->List V->Hp->VK->Prop:=λx vs H Q=>∃l xs y,x = .ref l/\vs=[y]/\H l=some (.lst xs)/\xs.length<sizeLine/\Q .non (upd H l (.lst (xs++[y])))
theorem mt_append:MtM X "list.append" rAppend:=by
 intro pins s Y H x vs v us Q I rx rv h
 obtain⟨l,xs,y,rfl,rfl,hH,hz,q⟩:=h
 cases rx
 obtain⟨u,rfl,ru⟩:=rv.one
 obtain⟨z,its,n,r,hl,e⟩:=I.lstM hH
 refine call_meets F.slot_list_append ⟨_,e,rfl⟩ F.entry_list_append (F.args_list_append_2 _ _) (PySem.list_append l its.toArray n u (by rw[size_toArray];omega)) ⟨e,?_⟩
 refine⟨.non,_,I.lset (its':=its++[u]) hH e (by simp) (r.append (.cons ru .nil)) ?_,rfl,q⟩
 rw[length_append,length_singleton]
 omega
def rPop:V->List V->Hp->VK->Prop:=λx vs H Q=>∃l xs y,x = .ref l/\vs=[]/\H l=some (.lst xs)/\xs[xs.length-1]?=some y/\Q y (upd H l (.lst xs.dropLast))
theorem mt_pop:MtM X "list.pop" rPop:=by
 intro pins s Y H x vs v us Q I rx rv h
 obtain⟨l,xs,y,rfl,rfl,hH,hy,q⟩:=h
 cases rx
 have hus:=rv.zero
 subst hus
 obtain⟨z,its,n,r,hl,e⟩:=I.lstM hH
 obtain⟨u,hu,ru⟩:=r.get hy
 have hy':its.toArray[its.toArray.size-1]?=some u:=by
  show its.toArray[its.length-1]?=some u
  rw[<- Array.getElem?_toList,<- hl]
  exact hu
 refine call_meets F.slot_list_pop ⟨_,e,rfl⟩ F.entry_list_pop (F.args_list_pop_1 _) (MeetsSeq.list_pop_last l its.toArray n u hy' (by rw[size_toArray];omega)) ⟨e,?_⟩
 refine⟨y,_,I.lset (its':=its.dropLast) hH e ?_ r.dropLast ?_,ru,q⟩
 .show its.toArray.eraseIdxIfInBounds (its.toArray.size-1)=its.dropLast.toArray
  rw[size_toArray,List.eraseIdxIfInBounds_toArray,erase_last]
 .rw [List.length_dropLast]
  omega
def rRep:R2:=λx y H Q=>∃l k xs,x = .ref l/\y = .int k/\H l=some (.lst xs)/\-(2^63)<=k/\k<2^63/\xs.length*k.toNat<=sizeLine/\
 ∀p,H p=none->Q (.ref p) (upd H p (.lst (List.replicate k.toNat xs).flatten))
theorem len_rep {α:Type}(xs:List α)(k:Nat):(List.replicate k xs).flatten.length=k*xs.length:=by
 induction k with
 |zero=>simp
 |succ k ih=>rw[replicate_succ,flatten_cons,length_append,ih,Nat.succ_mul,Nat.add_comm]
theorem op_rep:OpR X (binaryOp .Mult) rRep:=by
 intro pins s Y H x y v u Q I rx ry h
 obtain⟨l,k,xs,rfl,rfl,hH,h1,h2,hz,q⟩:=h
 cases rx
 obtain⟨t,rfl⟩:=ry
 obtain⟨z,its,n,r,hl,e⟩:=I.lstM hH
 have hlen:its.toArray.size*k.toNat<=sizeLine:=by rw[size_toArray,<- hl];exact hz
 have hcap:¬ its.toArray.size*k.toNat > (2^63-1) / 8:=by
  have:(sizeLine:Nat)<=(2^63-1) / 8:=by decide
  omega
 have hfit:¬ (!Builtin.List.listFitsIndex k)=true:=by
  rw[fitsIndex_both h1 h2]
  exact Bool.false_ne_true
 have hlong:¬ Builtin.List.listTooLong (its.toArray.size*k.toNat)=true:=by
  rw[notLongL hlen]
  exact Bool.false_ne_true
 have hnew:List.foldl (λx1 x2=>x1++x2) #[] (List.replicate (if its.toArray.isEmpty=true then 0 else k.toNat) its.toArray)=(List.replicate k.toNat its).flatten.toArray:=by
  have f0:∀m:Nat,List.foldl (λx1 x2=>x1++x2) #[] (List.replicate m its.toArray)=(List.replicate m its).flatten.toArray:=λm=>by
   have:=foldl_rep its m []
   rw[nil_append]at this
   exact this
  rw[f0]
  cases its with
  |nil=>simp
  |cons a r'=>rw[if_neg (by simp)]
 refine wpAny_binaryOp_repeat_ref (T := "list") (U := "int") (by decide) ⟨_,e,rfl⟩ (λs'=>typeIs_int s' k t) noFill_list_mul F.fills_int_mul F.slot_int_rmul repeat_list F.slot_int_index.lookup
  (call_meets F.slot_int_rmul (typeIs_int s k t) F.entry_int_rmul (F.args_int_rmul_2 _ _) (int___rmul___int_list k t l its.toArray n)
   ⟨e,rfl,⟨_,e,rfl⟩,call_meets F.slot_list_mul ⟨_,e,rfl⟩ F.entry_list_mul (F.args_list_mul_2 _ _) (AutoListH.list___mul___list_int_3 l its.toArray n k t hfit hcap hlong) ⟨e,?_⟩⟩)
 rw[hnew]
 exact⟨.ref _,_,I.lnew (t':=s.toks) (r.rep k.toNat) (by rw[len_rep,Nat.mul_comm];exact hz),rfl,q _ I.fresh⟩
end
section
variable {prog:Program}{w:World}{A:Around}{E:Value->Shared->Prop}{s:Shared}
set_option maxRecDepth 100000 in
end
section
variable {X:Cx}
end
end L2
namespace Att
open PySem PySem.W PySem.Calls PyProof.Rows
theorem ints_of_wellAll {P:Params}{h:Heap}:∀(ns:List Int) (vs:List Value),WellAll P h vs (ns.map WData.int)->IntsAre vs ns:=by
 intro ns
 induction ns with
 |nil=>
  intro vs w
  rw[map_nil]at w
  cases w
  exact .nil
 |cons n ns ih=>
  intro vs w
  rw[map_cons]at w
  cases w with
  |cons a b=>
   cases a
   exact .cons _ _ (ih _ b)
theorem script_of {l:OpenLaw}{n:Nat}(hn:l.most=some n){P:Params}{h:Heap}{args:List WData}{vals:List Value}
  (hpre:l.row.toRowW.claim.pre args=true) (hwl:WellAll P h vals args):
  ∃a vs ns,vals=[Value.ref a]/\args=[WData.list (ns.map WData.int)]/\h.get? a=some {cls:=.type "list",data:=.seq vs.toArray}/\IntsAre vs ns/\ns.length<=n:=by
 have hsh:WShape.hasAll [] args [.list .int]=true:=(pre_splitW hpre).1
 have hc:l.pre.holds [] {args:=args}=true:=(pre_splitW hpre).2
 obtain⟨d,r,rfl,h1,h2⟩:=hasAllW_cons hsh
 obtain rfl:=hasAllW_nil h2
 obtain⟨xs,rfl,h3⟩:=hasW_list h1
 obtain⟨ns,rfl⟩:=items_int h3
 have hlen:ns.length<=n:=by
  unfold OpenLaw.pre at hc
  have h4:(WTm.not (.lt (.lit (.int (n:Int))) (.len (.arg 0)))).holds [] {args:=[.list (ns.map .int)]}=true:=by
   have h4:=(holds_andW hc).1
   rw[hn]at h4
   exact h4
  have h5:=condW_of h4 (w_not (w_lt w_lit (w_len_list (w_arg rfl))))
  rw[length_map]at h5
  refine Nat.le_of_not_lt λq=>?_
  have q':(n:Int)<((ns.length:Nat):Int):=by omega
  first
   | (rw[decide_eq_true q']at h5;exact absurd h5 (by decide))
   | (simp at h5;omega)
 cases hwl with
 |cons w1 w2=>
  cases w2
  cases w1 with
  |list ho hall=>exact⟨_,_,ns,rfl,rfl,ho,ints_of_wellAll ns _ hall,hlen⟩
theorem post_true (l:OpenLaw)(args:List WData):l.row.toRowW.claim.post args (.bool true) args=true:=
 postW_of (r:=l.row.toRowW) (X:=(true==true))
  (show WShape.has [] (.bool true) .bool=true by first |rfl |decide |simp[WShape.has,WShape.arms,WShape.armsAll])
  (show (WTm.eq .res (.lit (.bool true))).value [] {args:=args,res:=some (.bool true),after:=args}=some (.bool (true==true)) from w_eq_bool (w_res rfl) w_lit) rfl
theorem attach_call {l:OpenLaw}{n:Nat}{q:Program}{loose:List Str}{XP:(Str->Option Value)->Heap->Prop}{YP:World->Heap->Prop}{d:DefRec}
  (hn:l.most=some n) (hdf:d.params.defaults=[])
  (call:∀(w:World) (s₀ s₁:Shared) (mg mb:Str->Option Value) (fa:Addr) (o:Obj) (pm cd doc:Value) (a:Addr) (vs:List Value) (ns:List Int),
   Ground q loose [] XP w s₀ mg mb s₁.heap->YP w s₁.heap->
   s₁.heap.get? fa=some o->o.data = .func (docDef d.name d.params d.body d.scope pm cd doc)->s₁.heap.CodeRec cd d.name->mg d.name=some (.ref fa)->
   s₁.heap.get? a=some {cls:=.type "list",data:=.seq vs.toArray}->IntsAre vs ns->ns.length<=n->s₁.gens=#[]->
   codeAny (model l.prog w) callerA (.call (.ref fa) ⟨[.ref a],[]⟩) (λr s'=>r = .ok (.ret (.bool true))/\OldK s₁.heap s'.heap/\s'.os=s₁.os/\AllBare s'.gens) s₁):
  WalkO q loose XP YP l.row.toRowW d [] (λf vs=>PySem.call f vs):=by
 intro w s₀ s₁ mg mb δ σ fa o pm cd doc dV kV ho hd hcd hD hmg hg args vals as hpre hlay hrd hwl hlo
 obtain rfl:dV = .none:=Dflts.none hD hdf
 obtain rfl:kV = .none:=Dflts.noKw hD
 obtain⟨a,vs,ns,rfl,rfl,hobj,hints,hlen⟩:=script_of hn hpre hwl
 refine enter_call (codeAny_mono (call w s₀ s₁ mg mb fa o pm cd doc a vs ns δ σ ho (fd_plain hd) hcd hmg hobj hints hlen hg) λr s' hq=>?_)
 obtain⟨rfl,h2,h3,h4⟩:=hq
 exact⟨.inl ⟨.bool true,.bool true,[],rfl,λ_=>rfl,.bool true,post_true l _,λ_=>⟨List.Pairwise.nil,λ_ hm=>(nomatch hm)⟩⟩,h2,h3,h4⟩
section
variable {prog:Program}{w:World}{A:Around}{E:Value->Shared->Prop}{s:Shared}{K:Frag}
end
end Att
namespace L2
open PySem PySem.Spec PyProof.Rows
theorem vals_ints:∀{vs:List Value} {ns:List Int},IntsAre vs ns->Vals (ns.map V.int) vs
 |_,_,.nil=>.nil
 |_,_,.cons n t h=>.cons ⟨t,rfl⟩ (vals_ints h)
def Only (H:Hp):Prop:=∀b,H b=none∨∃o xs,H b=some (.frz o (.lst xs))
theorem law_call {P:Program}{w:World}{K:Frag}{mg mb:Str->Option Value}{CX:CXT}{k:Nat}{fa a:Addr}{fd:FuncData}{x:Str}{sp:Sp}{s₁:Shared}{vs:List Value}{ns:List Int}
  (KX:K.In s₁.heap) (hns:s₁.heap.Ns mainGlobals mg) (hb:s₁.heap.Ns builtinsNs mb) (hbb:∀x:Str,x ≠ "__name__"->mb x=bootBuiltins x) (hlim:s₁.heap.NoLimit) (hg:s₁.gens=#[])
  (ha:s₁.heap.get? a=some {cls:=.type "list",data:=.seq vs.toArray}) (hi:IntsAre vs ns) (hl:ns.length<=sizeLine) (hr:Room k callerA)
  (F:∀base:Heap,K.In base->base.Ns mainGlobals mg->FnOk P w K mg base CX k fa fd [x] sp) (hbind:∀(s:Shared) (u:Value),BindsTo s fd ⟨[u],[]⟩ [(x,u)])
  (hsp:∀H:Hp,Only H->SqL K H a (ns.map V.int)->sp [.ref a] H (λv _=>v = .bl true) λ_ _ _=>False)
  (hCX:∀H e s',CX [] H s₁ (λ_ _ _=>False) e s'->False):
  codeAny (model P w) callerA (.call (.ref fa) ⟨[.ref a],[]⟩) (λr s'=>r = .ok (.ret (.bool true))/\OldK s₁.heap s'.heap/\s'.os=s₁.os/\AllBare s'.gens) s₁:=by
 have rv:=vals_ints hi
 have lenV:=hi.length
 -- from an abstract heap in which nothing but the script may be tracked
 have core : ∀H:Hp,Only H->SqL K H a (ns.map V.int)->HOk P w H s₁.heap->(∀b,H b≠none->b=a)->(H a≠none->K.lookup a=none)->
   codeAny (model P w) callerA (.call (.ref fa) ⟨[.ref a],[]⟩) (λr s'=>r = .ok (.ret (.bool true))/\OldK s₁.heap s'.heap/\s'.os=s₁.os/\AllBare s'.gens) s₁:=by
  intro H hO hS hok hA hK
  have base_of:∀{b:Addr} {o:Obj},s₁.heap.get? b=some o->H b=none->(hidT s₁.heap H).get? b=some o:=λe n=>hidT_get e n
  have noA:∀{b:Addr} {o:Obj} {es:Array DictEntry} {ep:Nat},s₁.heap.get? b=some o->o.data = .dict es ep->H b=none:=λ{b o es ep} e d=>by
   cases q:H b with
   |none=>rfl
   |some u=>
    have e':b=a:=hA b (by rw[q];simp)
    subst e'
    rw[ha]at e;cases e
    have d':Data.seq vs.toArray _=Data.dict es ep:=d
    cases d'
  have nsK:∀{b:Addr} {m:Str->Option Value},s₁.heap.Ns b m->(hidT s₁.heap H).Ns b m:=λ{b m} ⟨o,es,ep,e,d,r⟩=>⟨o,es,ep,base_of e (noA e d),d,r⟩
  have hKb:K.In (hidT s₁.heap H):=λb o e=>base_of (KX b o e) (by
   cases q:H b with
   |none=>rfl
   |some u=>
    have e':b=a:=hA b (by rw[q];simp)
    subst e'
    rw[hK (by rw[q];simp)]at e;cases e)
  have hM:Mod K mg (hidT s₁.heap H):=⟨hKb,nsK hns,⟨mb,nsK hb,hbb⟩,let⟨mc,h1,h2⟩:=hlim;⟨mc,nsK h1,h2⟩⟩
  have e0:Env0 P w K mg (hidT s₁.heap H) callerA [] s₁ H:=⟨rfl,hM,λb o e=>of_hidT e,Nat.le_of_eq (hidT_size _ _),trivial,λb hb=>absurd (show b∈([]:List Addr) from hb) (by simp),hok,.of_eq hg⟩
  refine codeAny_mono ((F _ hKb (nsK hns)).run callerA [] s₁ H ⟨[.ref a],[]⟩ [.ref a] [.ref a] _ _ hr e0 (hbind s₁ (.ref a)) (.cons rfl .nil) (hsp H hO hS)) λr s' h=>?_
  cases r with
  |error e=>exact (hCX H e s' h).elim
  |ok fl =>
   cases fl with
   |next=>exact False.elim h
   |brk=>exact False.elim h
   |cont=>exact False.elim h
   |ret u=>
    obtain⟨v,H',os,bare,un,hok',r',q⟩:=h
    have q':v = .bl true:=q
    subst q'
    obtain rfl:u=Value.bool true:=r'
    refine⟨rfl,OldK.of_keep λb o e=>?_,os,bare⟩
    cases q:H b with
    |none=>exact un.keep b o e q (by intro z;exact absurd (show b∈([]:List Addr) from z) (by simp)) (by simp)
    |some u=>
     rcases hO b with z | ⟨ob,xs,z⟩
     .rw [q]at z;cases z
     .have z2:=un.frzs b ob _ z
      obtain⟨e1,_⟩:=hok b _ z
      obtain⟨e2,_⟩:=hok' b _ z2
      rw[e]at e1;cases e1
      exact e2
 cases hk:K.lookup a with
 |some o=>
  -- the script is one of the module's own objects
  have e:=KX a o hk
  rw[ha]at e
  cases e
  refine core (λ_=>none) (λ_=>.inl rfl) (.inr ⟨_,vs.toArray,_,hk,rfl,rfl,rfl,by rw[size_toArray,lenV];exact hl,by simpa using rv⟩) (λb u z=>by have z':(none:Option HO)=some u:=z;cases z') (λb z=>absurd rfl z) λz=>absurd rfl z
 |none=>
  refine core (λb=>if b=a then some (.frz {cls:=.type "list",data:=.seq vs.toArray} (.lst (ns.map V.int))) else none) (λb=>?_) (.inl (.inr ⟨{cls:=.type "list",data:=.seq vs.toArray},if_pos rfl⟩)) (λb u z=>?_) (λb z=>?_) λ_=>hk
  .by_cases hb:b=a
   .exact .inr ⟨_,_,if_pos hb⟩
   .exact .inl (if_neg hb)
  .by_cases hb:b=a
   .have z':=(if_pos hb).symm.trans z
    cases z'
    subst hb
    exact⟨ha,by rw[length_map];exact hl,vs,_,rv,ha⟩
   .have z':=(if_neg hb).symm.trans z
    cases z'
  .by_cases hb:b=a
   .exact hb
   .exact absurd (if_neg hb) z
theorem walk_of {l:PySem.W.OpenLaw}{n k:Nat}{q:Program}{loose:List Str}{XP:(Str->Option Value)->Heap->Prop}{YP:World->Heap->Prop}{d:DefRec}{K:Params->Frag}{CX:World->CXT}{sp:World->Sp}{x:Str}
  (hn:l.most=some n) (hn2:n<=sizeLine) (hdf:d.params.defaults=[]) (hr:Room k callerA)
  (hY:∀(w:World) (h:Heap),YP w h->(K w.params).In h)
  (F:∀(w:World) (mg:Str->Option Value) (fa:Addr) (h:Heap),(K w.params).In h->h.Ns mainGlobals mg->mg d.name=some (.ref fa)->
   ∃fd:FuncData,(∀(s:Shared) (u:Value),BindsTo s fd ⟨[u],[]⟩ [(x,u)])/\
    ∀base:Heap,(K w.params).In base->base.Ns mainGlobals mg->FnOk l.prog w (K w.params) mg base (CX w) k fa fd [x] (sp w))
  (hsp:∀(w:World) (H:Hp) (a:Addr) (ns:List Int),ns.length<=n->Only H->SqL (K w.params) H a (ns.map V.int)->sp w [.ref a] H (λv _=>v = .bl true) λ_ _ _=>False)
  (hCX:∀(w:World) (H:Hp) (s:Shared) (e:Value) (s':Shared),CX w [] H s (λ_ _ _=>False) e s'->False):
  PySem.W.WalkO q loose XP YP l.row.toRowW d [] (λf vs=>PySem.call f vs):=by
 refine Att.attach_call hn hdf λw s₀ s₁ mg mb fa o pm cd doc a vs ns δ σ ho hd hcd hmg hobj hints hlen hg=>?_
 have KX:=hY w _ σ
 obtain⟨fd,hb,hF⟩:=F w mg fa _ KX δ.T.g hmg
 exact law_call KX δ.T.g δ.T.b δ.T.builtins δ.T.nolimit hg hobj hints (le_trans hlen hn2) hr hF hb (λH hO hS=>hsp w H a ns hlen hO hS) λH e s'=>hCX w H s₁ e s'
def inClass (s:Stmt)(j:Nat):Stmt:=match s with
 | .ClassDef _ _ _ body _ _ _ _ _ _ _=>body.getD j (.Pass ⟨0,0,0,0⟩)
 |_=>.Pass ⟨0,0,0,0⟩
def defArgs (s:Stmt):Arguments:=match s with
 | .FunctionDef _ a _ _ _ _ _ _ _ _=>a
 |_=>{posonlyargs:=[],args:=[],vararg:=none,kwonlyargs:=[],kw_defaults:=[],kwarg:=none,defaults:=[]}
def defBody (s:Stmt):List Stmt:=match s with
 | .FunctionDef _ _ b _ _ _ _ _ _ _=>b
 |_=>[]
def defScope (s:Stmt):Scope:=match s with
 | .FunctionDef _ _ _ _ _ _ sc _ _ _=>sc
 |_=>{kind:=.function,names:=[],isGenerator:=false,isCoroutine:=false}
abbrev CX0:CXT:=λ_ _ _ _ _ _=>False
abbrev E0:XK:=λ_ _ _=>False
theorem pass0 {X:Cx}:Passes CX0 X E0:=λ_ _ _ _ _ _ _ h=>h.elim
structure Fun (K:Frag) (x qual:Str) (st:Stmt) (f:Addr) (fd:FuncData):Prop where
 ex:∃(oc:Value) (od:Option Addr) (kV doc pm:Value) (an:Option Addr) (cdv ct:Value) (osl:Array (Option Value)),
  fd=fnOf x qual (defArgs st) (defBody st) (defScope st) .none kV doc pm an cdv ct/\K.lookup f=some ⟨oc,od,.func fd,osl⟩/\codeIn K cdv qual=true
 kp:keepIn K (.ref f)=true
section
variable {P:Program}{w:World}{K:Frag}{mg:Str->Option Value}{base:Heap}
theorem Fun.ok {x qual:Str}{st:Stmt}{f:Addr}{fd:FuncData}{N ps:List Str}{k:Nat}{sp:Sp}(F:Fun K x qual st f fd)(S:FnScope N ps (defScope st))(len:∀vs H Q E,sp vs H Q E->vs.length=ps.length)
  (hbody:∀(cdv:Value) (A:Around) (outer:List Env) (s:Shared) (H:Hp) (vs:List V) (Q:VK) (E:XK),Room k (A.deeper (envOfC qual (defScope st) s.heap.objs.size f cdv))->sp vs H Q E->
   ∃t,PSs (cxOf CX0 P w K mg base N qual (defScope st) f cdv A outer s H E).nox (defBody st) t/\t {nx:=λ_ H'=>Q .non H',rt:=Q} (start N vs) H):FnOk P w K mg base CX0 (k+1) f fd ps sp:=by
 obtain⟨oc,od,kV,doc,pm,an,cdv,ct,osl,rfl,lk,hcd⟩:=F.ex
 refine fn_of lk hcd S len λA outer s H vs Q E hr hsp=>?_
 obtain⟨t,h,q⟩:=hbody cdv A outer s H vs Q E hr hsp
 exact⟨t,h.nox,q⟩
theorem Fun.binds {x qual:Str}{st:Stmt}{f:Addr}{fd:FuncData}{ps:List Str}(F:Fun K x qual st f fd)
  (h:∀(kV doc pm:Value) (an:Option Addr) (cdv ct:Value) (us:List Value),us.length=ps.length->bindArgs (fnOf x qual (defArgs st) (defBody st) (defScope st) .none kV doc pm an cdv ct) ⟨us,[]⟩=pure (ps.zip us)):Binds K fd ps []:=by
 obtain⟨oc,od,kV,doc,pm,an,cdv,ct,osl,rfl,lk,hcd⟩:=F.ex
 exact .all (h kV doc pm an cdv ct)
theorem fun_mk {x qual:Str}{st:Stmt}{f:Addr}{oc:Value}{od an:Option Addr}{osl:Array (Option Value)}{kV doc pm cdv ct:Value}(l:K.lookup f=some ⟨oc,od,.func (fnOf x qual (defArgs st) (defBody st) (defScope st) .none kV doc pm an cdv ct),osl⟩)
  (c:codeIn K cdv qual=true) (k:keepIn K (.ref f)=true):Fun K x qual st f (fnOf x qual (defArgs st) (defBody st) (defScope st) .none kV doc pm an cdv ct):=⟨⟨oc,od,kV,doc,pm,an,cdv,ct,osl,rfl,l,c⟩,k⟩
end
section
variable {X:Cx}
theorem pv (i:Nat){x:Str}{pos:Pos}(hN:X.N[i]?=some x:=by rfl)(hv:Vis X.env.scope x:=by first |exact Or.inl rfl |exact Or.inr (Or.inl rfl) |exact Or.inr (Or.inr rfl))(hd:(x==("__debug__":Str))=false:=by decide)
  (hcd:(x==("__classdict__":Str))=false:=by decide):PE X (.Name x pos) (tVar i):=pe_var hN hv hd hcd
end
theorem iteF {A B:Prop}(h:B):if false=true then A else B:=by
 rw[if_neg Bool.false_ne_true]
 exact h
theorem iteT {A B:Prop}(h:A):if true=true then A else B:=by
 rw[if_pos rfl]
 exact h
def Same (H H':Hp):Prop:=∀b o,H b=some o->H' b=some o
theorem Same.refl (H:Hp):Same H H:=λ_ _ h=>h
theorem Same.trans {H H1 H2:Hp}(a:Same H H1)(b:Same H1 H2):Same H H2:=λc o h=>b c o (a c o h)
theorem Same.free {H H':Hp}(e:Same H H'){l:Addr}(h:H' l=Option.none):H l=Option.none:=by
 cases q:H l with
 |none=>rfl
 |some o=>
  rw[e l o q]at h
  cases h
theorem Same.seq {K:Frag}{H H':Hp}{a:Addr}{xs:List V}(e:Same H H')(h:SqL K H a xs):SqL K H' a xs:=by
 rcases h with (h | ⟨o,h⟩) |h
 .exact .inl (.inl (e _ _ h))
 .exact .inl (.inr ⟨o,e _ _ h⟩)
 .exact .inr h
end L2
set_option maxHeartbeats 4000000
namespace L2
open PySem PySem.Spec PyProof.Rows
structure DefAt (K:Frag) (mg:Str->Option Value) (x:Str) (st:Stmt) (f:Addr) (fd:FuncData):Prop where
 fn:Fun K x x st f fd
 here:mg x=some (.ref f)
structure Cal (P:Program) (w:World) (K:Frag) (mg:Str->Option Value) (base:Heap) (x:Str) (k:Nat) (ps:List Str) (sp:Sp):Prop where
 ex:∃f fd,FnOk P w K mg base CX0 k f fd ps sp/\mg x=some (.ref f)/\keepIn K (.ref f)=true/\Binds K fd ps []
theorem Cal.of {P:Program}{w:World}{K:Frag}{mg:Str->Option Value}{base:Heap}{x:Str}{st:Stmt}{f:Addr}{fd:FuncData}{N ps:List Str}{k:Nat}{sp:Sp}(D:DefAt K mg x st f fd)(S:FnScope N ps (defScope st))
  (hb:∀(kV doc pm:Value) (an:Option Addr) (cdv ct:Value) (us:List Value),us.length=ps.length->bindArgs (fnOf x x (defArgs st) (defBody st) (defScope st) .none kV doc pm an cdv ct) ⟨us,[]⟩=pure (ps.zip us))
  (len:∀vs H Q E,sp vs H Q E->vs.length=ps.length)
  (hbody:∀(cdv:Value) (A:Around) (outer:List Env) (s:Shared) (H:Hp) (vs:List V) (Q:VK) (E:XK),Room k (A.deeper (envOfC x (defScope st) s.heap.objs.size f cdv))->sp vs H Q E->
   ∃t,PSs (cxOf CX0 P w K mg base N x (defScope st) f cdv A outer s H E).nox (defBody st) t/\t {nx:=λ_ H'=>Q .non H',rt:=Q} (start N vs) H):Cal P w K mg base x (k+1) ps sp:=
 ⟨f,fd,D.fn.ok S len hbody,D.here,D.fn.kp,D.fn.binds hb⟩
theorem pe_cal {X:Cx}{x:Str}{k:Nat}{ps:List Str}{sp:Sp}{e:Expr}{es:List Expr}{t:TA}{p pos:Pos}(C:Cal X.prog X.w X.K X.mg X.base x k ps sp)(hr:Room k X.A)(hg:Gl X x)(ha:PA X (e::es) t)
  (hdb:(x==("__debug__":Str))=false:=by decide) (he:starEach (e::es) X.env=(false,eval e X.env)::starEach es X.env:=by rfl) (hpl:(backTo pos (starEach es X.env)).any (·.1)=false:=by rfl):
  PE X (.Call (.Name x p) (e::es) [] pos) (tCall sp [] E0 t):=by
 obtain⟨f,fd,F,hm,hk,hb⟩:=C.ex
 exact pe_call F hr hg hm hk hb .nil pass0 ha hdb he hpl
def spL (n:Nat)(R:List V->Hp->VK->Prop):Sp:=λvs H Q _=>vs.length=n/\R vs H Q
structure Blt (mg:Str->Option Value):Prop where
 len:mg "len"=none
 range:mg "range"=none
 max:mg "max"=none
 min:mg "min"=none
 isinstance:mg "isinstance"=none
 int:mg "int"=none
 bool:mg "bool"=none
 tuple:mg "tuple"=none
 list:mg "list"=none
 all:mg "all"=none
 zip:mg "zip"=none
 reversed:mg "reversed"=none
theorem Same.new {H:Hp}{p:Addr}{o:HO}(h:H p=none):Same H (upd H p o):=λb u e=>by rw[upd_ne (ne_of_none e h)];exact e
section
variable {X:Cx}{e:Expr}{es:List Expr}{te:TE}{t:TA}{pos:Pos}
def tTupS (t:TA):TE:=λY H Q=>t Y H λxs H1=>xs.length<=sizeLine/\∀p H',H1 p=none->Same H1 H'->H' p=some (.tup xs)->Q (.ref p) H'
def tLstS (t:TA):TE:=λY H Q=>t Y H λxs H1=>xs.length<=sizeLine/\∀p H',H1 p=none->Same H1 H'->H' p=some (.lst xs)->Q (.ref p) H'
theorem pe_tupS {x1}(h:PA X es t):PE X (.Tuple es x1 pos) (tTupS t):=by
 intro pins s Y H Q I hq
 refine wpAny_Tuple_spliced (thn (h pos pins s Y H _ I hq) λus s1 ⟨xs,H1,I1,r,z,q⟩=>⟨by rw[<- r.length];exact z,?_⟩)
 have hf:H1 s1.heap.objs.size=none:=I1.hok.fresh (Nat.le_refl _)
 refine⟨.ref s1.heap.objs.size,upd H1 s1.heap.objs.size (.tup xs),I1.laid (t':=s1.toks) (λb u e=>get?_push_of_some _ e) (Nat.le_refl _) ?_,rfl,q _ _ hf (Same.new hf) upd_same⟩
 exact⟨z,us,r,⟨_,get?_push_size _ rfl,rfl,_,rfl⟩⟩
theorem pe_lstS (h:PA X es t):PE X (.List es pos) (tLstS t):=by
 intro pins s Y H Q I hq
 refine wpAny_List_spliced (thn (h pos pins s Y H _ I hq) λus s1 ⟨xs,H1,I1,r,z,q⟩=>⟨by rw[<- r.length];exact z,?_⟩)
 have hf:H1 s1.heap.objs.size=none:=I1.hok.fresh (Nat.le_refl _)
 refine⟨.ref s1.heap.objs.size,upd H1 s1.heap.objs.size (.lst xs),I1.laid (t':=s1.toks) (λb u e=>get?_push_of_some _ e) (Nat.le_refl _) ?_,rfl,q _ _ hf (Same.new hf) upd_same⟩
 exact⟨z,us,0,r,get?_push_size _ rfl⟩
end
theorem iteB {c:Bool}{A B:Prop}(hc:c=false)(h:B):if c=true then A else B:=by
 rw[hc];exact iteF h
section
variable {X:Cx}{tg:Expr}
end
section
variable {X:Cx}
theorem Vals.at {xs:List V}{its:List Value}(r:Vals xs its){j:Nat}(h:j<its.toArray.size):∃x,xs[j]?=some x/\RelV x its.toArray[j]:=by
 have hl:=r.length
 have hj:j<xs.length:=by rw[size_toArray]at h;omega
 obtain⟨u,hu,ru⟩:=r.get (i:=j) (x:=xs[j]) (by simp[hj])
 refine⟨xs[j],by simp[hj],?_⟩
 have e:its.toArray[j]=u:=by
  have:its[j]?=some its.toArray[j]:=by simp at h ⊢<;>try exact h
  rw[this]at hu;exact Option.some.inj hu
 rw[e];exact ru
end
def freeL (scope:Scope)(env:Env):List (Str×Addr):=((scope.names.filter λx=>x.2 == .free).map λx=>(x.1,(env.cells.lookup x.1).getD 0)).reverse
theorem closureFor_go (env:Env):∀(l:List (Str×NameKind)) (acc:List (Str×Addr)),(∀x∈l,x.2 = .free->∃c,env.cells.lookup x.1=some c)->
  (forIn l acc (λ(x:Str×NameKind) (r:List (Str×Addr))=>(match x with | (name,kind)=>if (kind==NameKind.free)=true then do let a <- cellOf env name;pure (ForInStep.yield ((name,a)::r)) else pure (ForInStep.yield r):Sem (ForInStep (List (Str×Addr)))))) =
   (pure (((l.filter λx=>x.2 == .free).map λx=>(x.1,(env.cells.lookup x.1).getD 0)).reverse++acc):Sem (List (Str×Addr)))
 | [],acc,_=>by simp
 | (n,k)::l,acc,h=>by
  rw[forIn_cons]
  by_cases hk:k = .free
  .subst hk
   obtain⟨c,hc⟩:=h (n,.free) mem_cons_self rfl
   have hc':env.cells.lookup n=some c:=hc
   have ih:=closureFor_go env l ((n,c)::acc) λx hx=>h x (mem_cons_of_mem _ hx)
   have e:cellOf env n=pure c:=by unfold cellOf;rw[hc']
   simp only[beq_self_eq_true,if_true,e,pure_bind]
   rw[ih]
   simp[hc']
  .have hb:(k==NameKind.free)=false:=by simpa using hk
   have ih:=closureFor_go env l acc λx hx=>h x (mem_cons_of_mem _ hx)
   simp only[hb,false_eq_true,if_false,pure_bind]
   rw[ih]
   simp[hb]
theorem closureFor_free {scope:Scope}{env:Env}(h:∀x∈scope.names,x.2 = .free->∃c,env.cells.lookup x.1=some c):closureFor scope env=pure (freeL scope env):=by
 have:=closureFor_go env scope.names [] h
 unfold closureFor freeL
 rw[append_nil]at this
 simp only[bind_pure]
 exact this
theorem freeL_lookup {scope:Scope}{env:Env}(x:Str):(freeL scope env).lookup x=if (scope.names.any λy=>y.1==x && y.2 == .free) then some ((env.cells.lookup x).getD 0) else none:=by
 have key:∀(l:List (Str×NameKind)),((l.filter λx=>x.2 == .free).map λx=>(x.1,(env.cells.lookup x.1).getD 0)).lookup x=if (l.any λy=>y.1==x && y.2 == .free) then some ((env.cells.lookup x).getD 0) else none:=by
  intro l
  induction l with
  |nil=>rfl
  |cons p l ih=>
   obtain⟨n,k⟩:=p
   by_cases hk:(k==NameKind.free)=true
   .rw [List.filter_cons,if_pos (show ((n,k).2==NameKind.free)=true from hk),map_cons,lookup_cons,ih,List.any_cons]
    by_cases hn:n=x
    .subst hn;simp[hk]
    .have h1:(x==n)=false:=by simpa using λe=>hn e.symm
     have h2:(n==x)=false:=by simpa using hn
     simp[h1,h2]
   .have hk':(k==NameKind.free)=false:=by simpa using hk
    rw[List.filter_cons,if_neg (show ¬ ((n,k).2==NameKind.free)=true from hk),ih,List.any_cons]
    simp[hk']
 have rev:(freeL scope env)=((scope.names.reverse.filter λx=>x.2 == .free).map λx=>(x.1,(env.cells.lookup x.1).getD 0)):=by
  unfold freeL
  rw[<- map_reverse,<- List.filter_reverse]
 rw[rev,key,List.any_reverse]
theorem compLoop_any {prog:Program}{w:World}{A:Around}{R:Result->Shared->Prop}{s:Shared}{elt target iter:Expr}{scope:Scope}{pos:Pos}{it acc:Value}{env:Env}(I:Nat->Shared->Prop)
  (turn : ∀n s,I n s->wpAny (model prog w) A (pyNext it) (λr s₁=>match r with
   |none=>R (.ok .next) s₁
   |some v=>wpAny (model prog w) A (letOwnedTupleGo target it v) (λ_ s₂=>wpAny (model prog w) A (assign target env v) (λ_ s₃=>wpAny (model prog w) A (eval elt env) (λx s₄=>
     wpAny (model prog w) A (call (.builtin "list.append") [acc,x]) (λ_ s₅=>∃m,m<n/\I m s₅) (λ_ _=>False) s₄) (λ_ _=>False) s₃) (λ_ _=>False) s₂) (λ_ _=>False) s₁) (λ_ _=>False) s)
  (n:Nat) (h:I n s):codeAny (model prog w) A (.compLoop (.ListComp elt [⟨target,iter,[],0⟩] scope pos) 0 it acc env) R s:=by
 refine codeAny_loop rfl I (λn s hI=>?_) n h
 show wpAny _ A ((compTurn (.ListComp elt [⟨target,iter,[],0⟩] scope pos) 0 it acc env).onRaise (λx=>do noteFrame x env;theTreesLotGoes x)) _ _ s
 refine wpAny_noted ?_
 rw[compTurn_list1]
 refine wpAny_bind (wpAny_standAt (wpAny_bind (wpAny_mono (turn n s hI) (λr s₁ h₁=>?_) λ_ _ f=>f.elim)))
 cases r with
 |none=>exact wpAny_pure h₁
 |some v=>
  refine wpAny_bind (wpAny_mono h₁ (λ_ s₂ h₂=>?_) λ_ _ f=>f.elim)
  exact wpAny_bind (wpAny_mono h₂ (λ_ s₃ h₃=>wpAny_bind (wpAny_bind (wpAny_mono h₃ (λx s₄ h₄=>wpAny_bind (wpAny_mono h₄ (λ_ s₅ h₅=>wpAny_pure (wpAny_pure ⟨rfl,h₅⟩)) λ_ _ f=>f.elim)) λ_ _ f=>f.elim))) λ_ _ f=>f.elim)
theorem relabel_lookup {scope:Scope}{env:Env}(x:Str):(relabel scope env).names.lookup x=(scope.names.lookup x).map λk=>if (k==NameKind.free && env.scope.kind == .function && env.kindOf x==some .cell)=true then NameKind.cell else k:=by
 have key:∀l:List (Str×NameKind),(l.map λ(n,k)=>if (k==NameKind.free && env.scope.kind == .function && env.kindOf n==some .cell) then (n,NameKind.cell) else (n,k)).lookup x =
   (l.lookup x).map λk=>if (k==NameKind.free && env.scope.kind == .function && env.kindOf x==some .cell)=true then NameKind.cell else k:=by
  intro l
  induction l with
  |nil=>rfl
  |cons p l ih=>
   obtain⟨n,k⟩:=p
   rw[map_cons]
   by_cases hn:x=n
   .subst hn
    by_cases hc:(k==NameKind.free && env.scope.kind == .function && env.kindOf x==some .cell)=true
    .simp only[hc,if_true,lookup_cons,beq_self_eq_true,map_some]
    .simp only[if_neg hc,lookup_cons,beq_self_eq_true,map_some]
   .have hb:(x==n)=false:=by simpa using hn
    by_cases hc:(k==NameKind.free && env.scope.kind == .function && env.kindOf n==some .cell)=true
    .simp only[hc,if_true,lookup_cons,hb];exact ih
    .simp only[if_neg hc,lookup_cons,hb];exact ih
 exact key scope.names
def blkσ (ix:List (Option Nat))(Y:St):St:=ix.map λo=>o.bind λi=>(Y[i]?).join
def CapOf (X:Cx)(scope:Scope):List Str->List (Option Nat)->Prop
 | [],[]=>True
 |_::N,none::ix=>CapOf X scope N ix
 |x::N,some i::ix=>(X.N[i]?=some x/\scope.names.lookup x=some .free/\(X.env.kindOf x=some .cell∨X.env.kindOf x=some .free))/\CapOf X scope N ix
 |_,_=>False
theorem CapOf.get {X:Cx}{scope:Scope}:∀{N:List Str} {ix:List (Option Nat)},CapOf X scope N ix->N.length=ix.length/\∀(j i:Nat),ix[j]?=some (some i)->
  ∃x,N[j]?=some x/\X.N[i]?=some x/\scope.names.lookup x=some .free/\(X.env.kindOf x=some .cell∨X.env.kindOf x=some .free)
 | [],[],_=>⟨rfl,λj i h=>by simp at h⟩
 |x::N,none::ix,h=>by
  obtain⟨h1,h2⟩:=CapOf.get (show CapOf X scope N ix from h)
  refine⟨by simp[h1],λj i e=>?_⟩
  cases j with
  |zero=>simp at e
  |succ j=>simpa using h2 j i (by simpa using e)
 |x :: N,some i'::ix,h=>by
  obtain⟨h0,h⟩:=(show _/\CapOf X scope N ix from h)
  obtain⟨h1,h2⟩:=CapOf.get h
  refine⟨by simp[h1],λj i e=>?_⟩
  cases j with
  |zero=>
   simp at e
   subst e
   exact⟨x,by simp,h0⟩
  |succ j=>simpa using h2 j i (by simpa using e)
 | [],_::_,h=>h.elim
 |_::_,[],h=>by cases h
structure BlkScope (outer scope:Scope):Prop where
 kind:scope.kind = .function
 cell:∀y∈scope.names,y.2≠.cell
 free:∀y∈scope.names,y.2 = .free->outer.names.lookup y.1=some .cell∨outer.names.lookup y.1=some .free
 names:∀y∈scope.names,y.2 = .local->scope.names.lookup y.1=some .local
abbrev Cx.blk (X:Cx)(scope:Scope)(N:List Str)(fp:List Addr)(s:Shared)(H:Hp):Cx:=
 {X with N:=N,s₀:=s,H₀:=H,env:=compEnvC scope (freeL scope X.env) s.heap.objs.size X.env,outer:=X.stack,ex:=fp,fn:=λ_=>false,pn:=[],xe:=λ_ _=>False}
section
variable {X:Cx}{pins:List (Addr×Obj)}{Y:St}{H:Hp}{s:Shared}{scope:Scope}{N:List Str}{ix:List (Option Nat)}{fp:List Addr}
theorem blk_cell (ok:X.Ok)(S:BlkScope X.env.scope scope){x:Str}{c:Addr}(h:(freeL scope X.env).lookup x=some c):X.env.cells.lookup x=some c:=by
 rw[freeL_lookup]at h
 split at h
 .rename_i ha
  obtain⟨y,hy,e⟩:=any_eq_true.mp ha
  rw[and_eq_true,beq_iff_eq,beq_iff_eq]at e
  obtain⟨e1,e2⟩:=e
  subst e1
  obtain⟨c',hc'⟩:=ok.has y.1 (S.free y hy e2)
  rw[hc']at h ⊢
  exact h
 .cases h
theorem blk_free (ok:X.Ok){x:Str}(h:scope.names.lookup x=some .free)(hk:X.env.kindOf x=some .cell∨X.env.kindOf x=some .free):∃c,(freeL scope X.env).lookup x=some c/\X.env.cells.lookup x=some c:=by
 obtain⟨c,hc⟩:=ok.has x hk
 refine⟨c,?_,hc⟩
 rw[freeL_lookup,if_pos,hc]
 .rfl
 .exact any_eq_true.mpr ⟨(x,.free),PySem.mem_of_lookup h,by simp⟩
theorem Inv.blkOk (I:Inv X pins Y H s)(S:BlkScope X.env.scope scope)(hf:∀b∈fp,FpOk X pins H b)(hlt:∀b∈fp,b<s.heap.objs.size):(X.blk scope N fp s H).Ok where
 mod:=I.ok.mod
 kind:=S.kind
 glob:=I.ok.glob
 blt:=I.ok.blt
 above:=Nat.le_refl _
 inj:=λx y c h1 h2=>I.ok.inj x y c (blk_cell I.ok S h1) (blk_cell I.ok S h2)
 has := λx hx=>by
  have hx':(relabel scope X.env).names.lookup x=some .cell∨(relabel scope X.env).names.lookup x=some .free:=hx
  rw[relabel_lookup]at hx'
  cases e:scope.names.lookup x with
  |none=>rw[e]at hx';simp at hx'
  |some k=>
   have hm:=PySem.mem_of_lookup e
   have hk:k = .free:=by
    by_cases hk:k = .free
    .exact hk
    .exfalso
     have hb:(k==NameKind.free)=false:=by simpa using hk
     have hc:k≠.cell:=S.cell _ hm
     have e2:(if (k==NameKind.free && X.env.scope.kind == .function && X.env.kindOf x==some .cell)=true then NameKind.cell else k)=k:=if_neg (by rw[hb,Bool.false_and,Bool.false_and];exact Bool.false_ne_true)
     rw[e,map_some,e2]at hx'
     rcases hx' with z |z
     .exact hc (Option.some.inj z)
     .exact hk (Option.some.inj z)
   subst hk
   obtain⟨c,h1,_⟩:=blk_free I.ok e (S.free _ hm rfl)
   exact⟨c,h1⟩
 cab:=λx c h _=>by cases h
 hd:=I.ok.hd
 frames:=I.ok.frames
 stk:=.inl rfl
 exf:=λb hb=>⟨ne_of_lt (hlt b hb),λx c h=>(hf b hb).2.2.2.2.1 x c (blk_cell I.ok S h)⟩
 bs:=I.bs
 bsz:=le_trans I.ok.bsz I.sz
 noex:=λb o e hb=>by
  rcases (hf b hb).2.2.2.1 with z |z
  .exact I.ok.noex b o e z
  .exact absurd (lt_of_lt_of_le (lt_size e) (le_trans I.ok.bsz z)) (lt_irrefl _)
 exfs:=λb hb h=>by
  rcases mem_cons.mp (I.stkSub b h) with z |z
  .exact (hf b hb).2.1 z
  .exact (hf b hb).2.2.1 z
 funs:=I.stack
 frf:=I.stkFree
theorem Inv.blk {h₁:Heap}{m:Str->Option Value}{o:Obj}{t:Nat}(I:Inv X pins Y H s)(S:BlkScope X.env.scope scope)(cap:CapOf X scope N ix)(hf:∀b∈fp,FpOk X pins H b)(hlt:∀b∈fp,b<s.heap.objs.size)
  (hns:h₁.Ns s.heap.objs.size m) (hsb:Heap.SameBut s.heap.objs.size (s.heap.push o) h₁):Inv (X.blk scope N fp s H) [] (blkσ ix Y) H {s with heap:=h₁,toks:=t}:=by
 have keep:∀b o,s.heap.get? b=some o->h₁.get? b=some o:=λb o e=>hsb.extBut b o (ne_of_lt (lt_size e)) (get?_push_of_some _ e)
 obtain⟨hl,hcap⟩:=cap.get
 refine⟨I.blkOk S hf hlt,rfl,I.bare,Un.kept keep,⟨m,hns,λj x v e1 e2 e3=>?_⟩,λx c e=>?_,I.hok.fresh (Nat.le_refl _),λx c e=>I.freeC x c (blk_cell I.ok S e),λp hp=>absurd (show p∈([]:List (Addr×Obj)) from hp) (by simp),I.hok.kept keep,by unfold blkσ;rw[length_map];exact hl.symm⟩
 .obtain ⟨i,h1,h2⟩:∃i,ix[j]?=some (some i)/\Y[i]?=some (some v):=by
   unfold blkσ at e2
   rw[getElem?_map]at e2
   cases q:ix[j]? with
   |none=>rw[q]at e2;cases e2
   |some o=>
    rw[q]at e2
    cases o with
    |none=>simp at e2
    |some i=>
     refine⟨i,rfl,?_⟩
     cases q2:Y[i]? with
     |none=>simp[q2]at e2
     |some o2=>simp[q2]at e2;rw[e2]
  obtain⟨y,n1,n2,n3,n4⟩:=hcap j i h1
  have hxy:x=y:=by rw[e1]at n1;exact Option.some.inj n1
  subst hxy
  obtain⟨m',hn',hl'⟩:=I.loc
  have vis:Vis X.env.scope x:=by rcases n4 with k |k;exact .inr (.inl k);exact .inr (.inr k)
  obtain⟨u,r,l⟩:=hl' i x v n2 h2 vis
  refine⟨u,r,.inr ⟨?_,?_⟩⟩
  .show (relabel scope X.env).names.lookup x=some .cell∨(relabel scope X.env).names.lookup x=some .free
   rw[relabel_lookup,n3]
   by_cases hc:(NameKind.free==NameKind.free && X.env.scope.kind == .function && X.env.kindOf x==some .cell)=true
   .left;simp only[map_some,if_pos hc]
   .right;simp only[map_some,if_neg hc]
  .obtain ⟨c,c1,c2⟩:=blk_free I.ok n3 n4
   refine⟨c,c1,?_⟩
   rcases l with⟨hk,_⟩ | ⟨_,c',hc',z⟩
   .exfalso
    rcases n4 with k |k
    .rw [hk]at k;cases k
    .rw [hk]at k;cases k
   .rw [c2]at hc';cases hc'
    obtain⟨ob,ho,hd⟩:=z
    exact⟨ob,keep _ _ ho,hd⟩
 .obtain ⟨v,ob,ho,hd⟩:=I.cell x c (blk_cell I.ok S e)
  exact⟨v,ob,keep _ _ ho,hd⟩
theorem Inv.unblk {pins':List (Addr×Obj)}{Y':St}{H':Hp}{s':Shared}(I:Inv X pins Y H s)(hf:∀b∈fp,FpOk X pins H b)(J:Inv (X.blk scope N fp s H) pins' Y' H' s'):Inv X pins Y H' s':=
 I.call' (ch:=fp) J.os J.base J.hok J.bare λb hb=>⟨(hf b hb).2.2.2.1,(hf b hb).2.1,(hf b hb).2.2.2.2.1,(hf b hb).2.2.2.2.2⟩
theorem Inv.frameGone {C:Addr}{h':Heap}(I:Inv X pins Y H s)(f:FpOk X pins H C)(hs:Heap.SameBut C s.heap h'):Inv X pins Y H {s with heap:=h'}:=
 I.turned (t':=s.toks) (λb o hb e=>hs.extBut b o hb e) f.1 f.2.1 f.2.2.2.1 f.2.2.2.2.1 f.2.2.2.2.2
end
def CompW (J:It)(D:Addr)(g:TG)(te:TE)(Y₀:St)(H₀:Hp)(fin:Hp->Prop):Prop:=
 ∃W:Nat->Nat->St->List V->Hp->Prop,(∃m,W 0 m Y₀ [] H₀)/\∀i m Y ys H,W i m Y ys H->
  (J.stop i H/\fin H)∨(ys.length<sizeLine/\J.go i H/\∀x H',J.yld i H x H'->g x Y H' λY2 H2=>te Y2 H2 λy H3=>H3 D=some (.lst ys)/\∃m',m'<m/\W (i+1) m' Y2 (ys++[y]) (upd H3 D (.lst (ys++[y]))))
def tComp (wi:TI)(ix:List (Option Nat))(g:TG)(te:TE):TE:=λY H Q=>wi Y H λJ H1=>∀D,H1 D=none->CompW J D g te (blkσ ix Y) (upd H1 D (.lst [])) λH'=>Q (.ref D) H'
section
variable {X:Cx}{tg elt iter:Expr}{scope:Scope}{N:List Str}{ix:List (Option Nat)}{wi:TI}{g:TG}{te:TE}{pos:Pos}
theorem comp_core {pins:List (Addr×Obj)}{s:Shared}{Y:St}{H:Hp}{Q:VK}{RR:Value->Addr->Result->Shared->Prop}(hc:X.calm=true)(hi:PI X tg iter wi)(S:BlkScope X.env.scope scope)(cap:CapOf X scope N ix)
  (hg:∀fp s H,PG (X.blk scope N fp s H) tg g) (he:∀fp s H,PE (X.blk scope N fp s H) elt te) (I:Inv X pins Y H s) (h:tComp wi ix g te Y H Q)
  (hRR:∀D C H' s',Inv X pins Y H' s'->FpOk X pins H' C->(∃m,s'.heap.Ns C m)->Q (.ref D) H'->RR (.ref D) C (.ok .next) s'):
  wpAny (model X.prog X.w) X.A (eval iter X.env) (λx s₁=>wpAny (model X.prog X.w) X.A (pyIter x) (λit s₂=>wpAny (model X.prog X.w) X.A (newList []) (λacc s₃=>
   wpAny (model X.prog X.w) X.A (newFunctionEnv scope X.env.globals (freeL scope X.env) [] X.env.qual none .none (some X.env)) (λcenv s₄=>
    codeAny (model X.prog X.w) X.A (.compStart (.ListComp elt [⟨tg,iter,[],0⟩] scope pos) 0 it acc {cenv with scope:=relabel scope X.env}) (RR acc cenv.locals) s₄) X.xe s₃) X.xe s₂) X.xe s₁) X.xe s:=by
 refine thn (hi pins s Y H _ I h) λv s1 h1=>thn h1 λitv s2 h2=>?_
 obtain⟨it,fp,tn,J,H2,e,I2,T,st2,f2,R⟩:=h2
 subst e
 refine wpAny_newObj_type (wpAny_newFunctionEnv S.cell (by intro y hy;simp at hy) (λh₁ hns₁ hsb₁=>?_) S.kind)
 dsimp only at hns₁ hsb₁ ⊢
 have I3:Inv X pins Y (upd H2 s2.heap.objs.size (.lst [])) {s2 with heap:=s2.heap.push {cls:=.type "list",data:=.seq ([]:List Value).toArray},toks:=s2.toks}:=I2.lnew .nil (zero_le _)
 have hD:H2 s2.heap.objs.size=none:=I2.fresh
 have lt2:∀b∈fp,b<s2.heap.objs.size:=λb hb=>by obtain⟨o,e,_⟩:=T.obj 0 _ st2 b hb;exact lt_size e
 obtain⟨W,⟨m0,w0⟩,turn⟩:=R s2.heap.objs.size hD
 generalize hs3:({s2 with heap:=s2.heap.push {cls:=.type "list",data:=.seq ([]:List Value).toArray},toks:=s2.toks}:Shared)=s3 at I3
 have e3:s3.heap=s2.heap.push {cls:=.type "list",data:=.seq ([]:List Value).toArray}:=by rw[<- hs3]
 have sz3:s3.heap.objs.size=s2.heap.objs.size+1:=by rw[e3,size_push]
 have f3:∀b∈fp,FpOk X pins (upd H2 s2.heap.objs.size (.lst [])) b:=λb hb=>⟨by rw[upd_ne (ne_of_lt (lt2 b hb))];exact (f2 b hb).1,(f2 b hb).2⟩
 have lt3:∀b∈fp,b<s3.heap.objs.size:=λb hb=>by rw[sz3];exact Nat.lt_succ_of_lt (lt2 b hb)
 have hns₁':=hns₁
 rw[<- e3]at hns₁'
 have hsb₁':=hsb₁
 rw[<- e3]at hsb₁'
 have J0:=I3.blk (N:=N) (ix:=ix) (fp:=fp) (t:=s2.toks+([]:List (Str×Value)).length) S cap f3 lt3 hns₁' hsb₁'
 have keep1:∀b o,s2.heap.get? b=some o->h₁.get? b=some o:=λb o e=>hsb₁.extBut b o (by rw[size_push];exact ne_of_lt (Nat.lt_succ_of_lt (lt_size e))) (get?_push_of_some _ (get?_push_of_some _ e))
 have st1:tn 0 h₁:=T.keep 0 _ _ st2 λb _ o e=>keep1 b o e
 have stat:∀{H':Hp},(∀b∈fp,H' b=none)->∀b∈fp,FpOk (X.blk scope N fp s3 (upd H2 s2.heap.objs.size (.lst []))) [] H' b:=λ{H'} hn b hb=>by
  refine⟨hn b hb,ne_of_lt (lt3 b hb),λz=>?_,.inl hb,λx c e=>(f2 b hb).2.2.2.2.1 x c (blk_cell I.ok S e),λp hp=>absurd (show p∈([]:List (Addr×Obj)) from hp) (by simp)⟩
  rcases mem_cons.mp (I3.stkSub b z) with y |y
  .exact (f2 b hb).2.1 y
  .exact (f2 b hb).2.2.1 y
 have loop:∀s4:Shared,s4={s3 with heap:=h₁,toks:=s2.toks+([]:List (Str×Value)).length}->
   codeAny (model X.prog X.w) X.A (.compLoop (.ListComp elt [⟨tg,iter,[],0⟩] scope pos) 0 (.ref it) (.ref s2.heap.objs.size) (compEnvC scope (freeL scope X.env) s3.heap.objs.size X.env)) (RR (.ref s2.heap.objs.size) s3.heap.objs.size) s4:=by
  rintro s4 rfl
  refine compLoop_any (λn s'=>∃i Y' ys H',Inv (X.blk scope N fp s3 (upd H2 s2.heap.objs.size (.lst []))) [] Y' H' s'/\tn i s'.heap/\(∀b∈fp,H' b=none)/\W i n Y' ys H') ?_ m0 ⟨0,_,[],_,J0,st1,λb hb=>(f3 b hb).1,w0⟩
  rintro n s' ⟨i,Y',ys,H',I',st',fr',w'⟩
  rcases turn i n Y' ys H' w' with⟨stop,fin⟩ | ⟨hy,go,step⟩
  .refine thn (T.done (X.blk scope N fp s3 (upd H2 s2.heap.objs.size (.lst []))) rfl rfl rfl hc i [] s' Y' H' _ I' (stat fr') st' stop) λr s5 ⟨hr,I5⟩=>?_
   subst hr
   obtain⟨m,hn,_⟩:=I5.loc
   exact hRR _ _ H' s5 (I3.unblk f3 I5) (I3.fpOk (Nat.le_refl _) I5.free) ⟨m,hn⟩ fin
  .refine thn (T.item (X.blk scope N fp s3 (upd H2 s2.heap.objs.size (.lst []))) rfl rfl rfl hc i [] s' Y' H' _ I' (stat fr') st' go) λr s5 ⟨u,hr,h5⟩=>?_
   subst hr
   refine thn h5 λ_ s6 ⟨x,H6,I6,r6,y6,st6,fr6⟩=>?_
   have I6':=I6.pinned (stat fr6) (T.obj _ _ st6)
   refine thn (hg fp s3 _ _ s6 Y' H6 x u _ I6' r6 (step x H6 y6)) λ_ s7 ⟨Y7,H7,I7,q7⟩=>?_
   refine thn (he fp s3 _ _ s7 Y7 H7 _ I7 q7) λyv s8 ⟨y,H8,I8,r8,hl8,m',hm',w8⟩=>?_
   refine thn (mt_append _ s8 Y7 H8 (.ref s2.heap.objs.size) [y] (.ref s2.heap.objs.size) [yv] (λ_ H9=>H9=upd H8 s2.heap.objs.size (.lst (ys++[y]))) I8 rfl (.cons r8 .nil) ⟨_,ys,y,rfl,rfl,hl8,hy,rfl⟩) λ_ s9 ⟨_,H9,I9,_,e9⟩=>?_
   subst e9
   refine⟨m',hm',i+1,Y7,ys++[y],_,I9.unpinned,T.keep _ _ _ st6 λb hb o e=>(I9.pin (b,o) (mem_append_right _ (mem_append_right _ (mem_pinsAt hb e)))).1,λb hb=>?_,w8⟩
   obtain⟨o,e,_⟩:=T.obj _ _ st6 b hb
   exact (I9.pin (b,o) (mem_append_right _ (mem_append_right _ (mem_pinsAt hb e)))).2.1
 have fin:=loop _ rfl
 rw[<- hs3]at fin
 exact codeAny_compStart_list fin (T.self _ 0 _ _ _ st1 fin)
theorem blk_clos (S:BlkScope X.env.scope scope)(ok:X.Ok):closureFor scope X.env=pure (freeL scope X.env):=closureFor_free λx hx e=>ok.has x.1 (S.free x hx e)
theorem pe_comp (hc:X.calm=true)(hi:PI X tg iter wi)(S:BlkScope X.env.scope scope)(cap:CapOf X scope N ix)(hg:∀fp s H,PG (X.blk scope N fp s H) tg g)(he:∀fp s H,PE (X.blk scope N fp s H) elt te)
  (hs:∀x,foldedSetIterable iter X.env x=pure x:=by intro _;rfl):PE X (.ListComp elt [⟨tg,iter,[],0⟩] scope pos) (tComp wi ix g te):=by
 intro pins s Y H Q I h
 rw[eval_ListComp]
 refine wpAny_comprehension_free (use:=none) rfl hs (blk_clos S I.ok) S.kind S.names (comp_core (RR:=λacc C=>compPost (model X.prog X.w) X.A X.xe none (EP X pins Y Q) acc C) hc hi S cap hg he I h λD C H' s' I' f' hn q=>?_)
 obtain⟨m,hn⟩:=hn
 exact⟨m,hn,λh' hs'=>⟨.ref D,H',I'.frameGone f' hs',rfl,q⟩⟩
end
section
variable {X:Cx}
set_option exponentiation.threshold 5000 in
end
section
variable {X:Cx}
theorem CallR.imp {f:Value}{r r':List V->Hp->VK->Prop}(h:CallR X f r)(hi:∀xs H Q,r' xs H Q->r xs H Q):CallR X f r':=λpins s Y H xs us Q I rs q=>h pins s Y H xs us Q I rs (hi xs H Q q)
def rTupleS (K:Frag):List V->Hp->VK->Prop:=λxs H Q=>∃p ys,xs=[.ref p]/\SqL K H p ys/\∀l H',H l=none->Same H H'->H' l=some (.tup ys)->Q (.ref l) H'
theorem call_tupleS:CallR X (.type "tuple") (rTupleS X.K):=call_tuple_of.imp λxs H Q ⟨p,ys,e,h,q⟩=>⟨p,ys,e,.inl ⟨h,λl hl=>q l _ hl (Same.new hl) upd_same⟩⟩
def rSlS (K:Frag):V->Option Int->Option Int->Hp->VK->Prop:=λx lo hi H Q=>∃a xs,x = .ref a/\SqL K H a xs/\∀p H',H p=none->Same H H'->H' p=some (.lst (cutV xs lo hi))->Q (.ref p) H'
theorem SlR.imp {r r':V->Option Int->Option Int->Hp->VK->Prop}(h:SlR X r)(hi:∀x lo hi H Q,r' x lo hi H Q->r x lo hi H Q):SlR X r':=λpins s Y H x v vl vu lo hi' sl Q I rx hs pl pu q=>h pins s Y H x v vl vu lo hi' sl Q I rx hs pl pu (hi _ _ _ _ _ q)
theorem sl_listS:SlR X (rSlS X.K):=sl_list.imp λx lo hi H Q ⟨a,xs,e,h,q⟩=>⟨a,xs,e,h,λp hp=>q p _ hp (Same.new hp) upd_same⟩
def rCatTS (K:Frag):R2:=λx y H Q=>∃a b xs ys,x = .ref a/\y = .ref b/\SqT K H a xs/\SqT K H b ys/\xs≠[]/\ys≠[]/\xs.length+ys.length<=sizeLine/\∀p H',H p=none->Same H H'->H' p=some (.tup (xs++ys))->Q (.ref p) H'
theorem op_catTS:OpR X (binaryOp .Add) (rCatTS X.K):=λpins s Y H x y v u Q I rx ry ⟨a,b,xs,ys,e1,e2,h1,h2,n1,n2,hz,q⟩=>
 op_catT pins s Y H x y v u Q I rx ry ⟨a,b,xs,ys,e1,e2,h1,h2,n1,hz,λz=>absurd z n2,λ_ p hp=>q p _ hp (Same.new hp) upd_same⟩
end
end L2
namespace PySem
namespace F
end F
section
variable {prog:Program}{w:World}{A:Around}{E:Value->Shared->Prop}{s:Shared}
end
end PySem
namespace L2
open PySem PySem.Spec PyProof.Rows
section
variable {X:Cx}{tg:Expr}
end
theorem Same.seqT {K:Frag}{H H':Hp}{a:Addr}{xs:List V}(e:Same H H')(h:SqT K H a xs):SqT K H' a xs:=by
 rcases h with (h | ⟨o,h⟩) |h
 .exact .inl (.inl (e _ _ h))
 .exact .inl (.inr ⟨o,e _ _ h⟩)
 .exact .inr h
theorem pe_globI {X:Cx}{x:Str}{i:Int}{pos:Pos}(hg:Gl X x)(hm:∃t,X.mg x=some (.int i t))(hd:(x==("__debug__":Str))=false:=by decide):PE X (.Name x pos) (tC (.int i)):=by
 obtain⟨t,e⟩:=hm
 exact pe_glob hg e ⟨t,rfl⟩ hd
inductive D where
 |int (i:Int) |bl (b:Bool) |non |str (x:Str) |ty (n:String) |fn (x:Str) |tup (ds:List D) |lst (ds:List D) |dic |exc (c:Str) |obj (c:Str) (ns:List Str) (ds:List D)
def clsφ (a:Addr)(c:Value):Heap->Prop:=λh=>∃o,h.get? a=some o/\o.cls=c
mutual
def Rep (K:Frag)(F:Hp):D->V->Prop
 | .int i,v=>v = .int i
 | .bl b,v=>v = .bl b
 | .non,v=>v = .non
 | .str x,v=>v = .str x
 | .ty n,v=>v = .ty n
 | .fn x,v=>∃f,v = .ref f/\nsIn K mainGlobals x=some (some (.ref f))
 | .tup ds,v=>∃a vs,v = .ref a/\SqT K F a vs/\Reps K F ds vs
 | .lst ds,v=>∃a vs,v = .ref a/\SqL K F a vs/\Reps K F ds vs
 | .dic,v=>∃a,v = .ref a/\F a=some (.ext (clsφ a (.type "dict")))
 | .exc c,v=>∃a C,v = .ref a/\nsIn K mainGlobals c=some (some (.ref C))/\F a=some (.ext (clsφ a (.ref C)))
 | .obj c ns ds,v=>∃a C dx vs,v = .ref a/\nsIn K mainGlobals c=some (some (.ref C))/\F a=some (.ins C dx (ns.zip vs))/\ds.length<=ns.length/\Reps K F ds vs
def Reps (K:Frag)(F:Hp):List D->List V->Prop
 | [],vs=>vs=[]
 |d::ds,vs=>∃v r,vs=v::r/\Rep K F d v/\Reps K F ds r
end
section
variable {K:Frag}{F F' H H':Hp}
mutual
theorem Rep.mono (s:Same F F'):∀{d:D} {v:V},Rep K F d v->Rep K F' d v
 | .int _,_,h=>h
 | .bl _,_,h=>h
 | .non,_,h=>h
 | .str _,_,h=>h
 | .ty _,_,h=>h
 | .fn _,_,h=>h
 | .tup ds,v,h=>by
  obtain⟨a,vs,e,h1,h2⟩:=h
  exact⟨a,vs,e,s.seqT h1,Reps.mono s h2⟩
 | .lst ds,v,h=>by
  obtain⟨a,vs,e,h1,h2⟩:=h
  exact⟨a,vs,e,s.seq h1,Reps.mono s h2⟩
 | .dic,v,h=>by
  obtain⟨a,e,h1⟩:=h
  exact⟨a,e,s _ _ h1⟩
 | .exc _,v,h=>by
  obtain⟨a,C,e,h0,h1⟩:=h
  exact⟨a,C,e,h0,s _ _ h1⟩
 | .obj _ _ ds,v,h=>by
  obtain⟨a,C,dx,vs,e,h0,h1,hl,h2⟩:=h
  exact⟨a,C,dx,vs,e,h0,s _ _ h1,hl,Reps.mono s h2⟩
theorem Reps.mono (s:Same F F'):∀{ds:List D} {vs:List V},Reps K F ds vs->Reps K F' ds vs
 | [],_,h=>h
 |d::ds,vs,h=>by
  obtain⟨v,r,e,h1,h2⟩:=h
  exact⟨v,r,e,Rep.mono s h1,Reps.mono s h2⟩
end
theorem Reps.length:∀{ds:List D} {vs:List V},Reps K F ds vs->ds.length=vs.length
 | [],_,h=>by cases h;rfl
 |d::ds,vs,h=>by
  obtain⟨v,r,rfl,h1,h2⟩:=h
  simp[Reps.length h2]
theorem Reps.get:∀{ds:List D} {vs:List V} {i:Nat} {d:D},Reps K F ds vs->ds[i]?=some d->∃v,vs[i]?=some v/\Rep K F d v
 | [],_,_,_,_,e=>by simp at e
 |d::ds,vs,i,d',h,e=>by
  obtain⟨v,r,rfl,h1,h2⟩:=h
  cases i with
  |zero=>simp at e;subst e;exact⟨v,rfl,h1⟩
  |succ i=>simpa using Reps.get h2 (by simpa using e)
theorem Reps.get':∀{ds:List D} {vs:List V} {i:Nat} {v:V},Reps K F ds vs->vs[i]?=some v->∃d,ds[i]?=some d/\Rep K F d v:=λ{ds vs i v} h e=>by
 have hl:=h.length
 have hi:=(List.getElem?_eq_some_iff.mp e).1
 obtain⟨v',e',r⟩:=h.get (getElem?_eq_getElem (l:=ds) (i:=i) (by omega))
 rw[e]at e';cases e'
 exact⟨_,getElem?_eq_getElem (by omega),r⟩
theorem Reps.append:∀{ds es:List D} {vs us:List V},Reps K F ds vs->Reps K F es us->Reps K F (ds++es) (vs++us)
 | [],_,_,_,h,g=>by cases h;exact g
 |d::ds,_,_,_,h,g=>by
  obtain⟨v,r,rfl,h1,h2⟩:=h
  exact⟨v,r++_,rfl,h1,Reps.append h2 g⟩
theorem Reps.take:∀{ds:List D} {vs:List V} (n:Nat),Reps K F ds vs->Reps K F (ds.take n) (vs.take n)
 | [],_,n,h=>by cases h;simp[Reps]
 |d::ds,_,0,h=>by simp[Reps]
 |d::ds,_,n+1,h=>by
  obtain⟨v,r,rfl,h1,h2⟩:=h
  exact⟨v,r.take n,rfl,h1,Reps.take n h2⟩
theorem Reps.drop:∀{ds:List D} {vs:List V} (n:Nat),Reps K F ds vs->Reps K F (ds.drop n) (vs.drop n)
 | [],_,n,h=>by cases h;simp[Reps]
 |d::ds,_,0,h=>h
 |d::ds,_,n+1,h=>by
  obtain⟨v,r,rfl,h1,h2⟩:=h
  simpa using Reps.drop n h2
theorem Reps.of:∀{ds:List D} {vs:List V},ds.length=vs.length->(∀(i:Nat) d v,ds[i]?=some d->vs[i]?=some v->Rep K F d v)->Reps K F ds vs
 | [],[],_,_=>rfl
 |d::ds,v::vs,e,h=>⟨v,vs,rfl,h 0 d v rfl rfl,Reps.of (by simpa using e) λi d' v' e1 e2=>h (i+1) d' v' (by simpa using e1) (by simpa using e2)⟩
 | [],_::_,e,_=>by simp at e
 |_::_,[],e,_=>by simp at e
theorem Reps.reverse {ds:List D}{vs:List V}(h:Reps K F ds vs):Reps K F ds.reverse vs.reverse:=by
 have hl:=h.length
 refine Reps.of (by simp[hl]) λi d v e1 e2=>?_
 have h1:=(List.getElem?_eq_some_iff.mp e1).1
 rw[length_reverse]at h1
 rw[List.getElem?_reverse (by omega)]at e1
 rw[List.getElem?_reverse (by omega),<- hl]at e2
 obtain⟨v',e',r⟩:=h.get e1
 rw[e2]at e';cases e';exact r
theorem reps_ints:∀{xs:List Int} {vs:List V},Reps K F (xs.map D.int) vs↔vs=xs.map V.int
 | [],vs=>Iff.rfl
 |x :: xs,vs=>by
  constructor
  .rintro ⟨v,r,rfl,h1,h2⟩
   have h1':v=V.int x:=h1
   rw[h1',reps_ints.mp h2];rfl
  .rintro rfl
   exact⟨_,_,rfl,rfl,reps_ints.mpr rfl⟩
end
def imm:HO->Bool
 | .tup _=>true
 | .frz _ _=>true
 |_=>false
inductive OV where
 |fz (d:D)
 |nl (ts:List OV)
 |rt (a:Addr) (ts:List OV)
 |fx (v:V) (d:D)
 |ob (o:Option Addr) (c:Str) (ns:List Str) (ts:List OV)
mutual
def OV.val:OV->D
 | .fz d=>d
 | .nl ts=>.lst (OV.vals ts)
 | .rt _ ts=>.lst (OV.vals ts)
 | .fx _ d=>d
 | .ob _ c ns ts=>.obj c ns (OV.vals ts)
def OV.vals:List OV->List D
 | []=>[]
 |t::ts=>t.val::OV.vals ts
end
theorem OV.vals_eq:∀(ts:List OV),OV.vals ts=ts.map OV.val
 | []=>by simp[OV.vals]
 |t::ts=>by simp[OV.vals,OV.vals_eq ts]
mutual
def RepO (K:Frag)(F H:Hp):OV->V->List Addr->Prop
 | .fz d,v,A=>A=[]/\Rep K F d v
 | .nl ts,v,A=>∃a vs B,v = .ref a/\A=a::B/\H a=some (.lst vs)/\RepOs K F H ts vs B
 | .rt a ts,v,A=>∃vs B,v = .ref a/\A=a::B/\H a=some (.lst vs)/\RepOs K F H ts vs B
 | .fx u d,v,A=>A=[]/\v=u/\Rep K F d v
 | .ob o c ns ts,v,A=>∃a C dx vs B,v = .ref a/\A=a::dx::B/\nsIn K mainGlobals c=some (some (.ref C))/\(∀a',o=some a'->a=a')/\H a=some (.ins C dx (ns.zip vs))/\H dx=some (.own a)/\ts.length<=ns.length/\RepOs K F H ts vs B
def RepOs (K:Frag)(F H:Hp):List OV->List V->List Addr->Prop
 | [],vs,A=>vs=[]/\A=[]
 |t::ts,vs,A=>∃v r B C,vs=v::r/\A=B++C/\RepO K F H t v B/\RepOs K F H ts r C
end
section
variable {K:Frag}{F F' H H':Hp}
mutual
theorem RepO.frame (s:Same F F'):∀{t:OV} {v:V} {A:List Addr},(∀a∈A,∀xs,H a=some xs->H' a=some xs)->RepO K F H t v A->RepO K F' H' t v A
 | .fz d,v,A,_,h=>⟨h.1,h.2.mono s⟩
 | .nl ts,v,A,hk,h=>by
  obtain⟨a,vs,B,e,rfl,h1,h2⟩:=h
  exact⟨a,vs,B,e,rfl,hk a mem_cons_self _ h1,RepOs.frame s (λb hb=>hk b (mem_cons_of_mem _ hb)) h2⟩
 | .rt a ts,v,A,hk,h=>by
  obtain⟨vs,B,e,rfl,h1,h2⟩:=h
  exact⟨vs,B,e,rfl,hk a mem_cons_self _ h1,RepOs.frame s (λb hb=>hk b (mem_cons_of_mem _ hb)) h2⟩
 | .fx u d,v,A,_,h=>⟨h.1,h.2.1,h.2.2.mono s⟩
 | .ob o c ns ts,v,A,hk,h=>by
  obtain⟨a,C,dx,vs,B,e,rfl,h0,ho,h1,h2,hl,h3⟩:=h
  exact⟨a,C,dx,vs,B,e,rfl,h0,ho,hk a (by simp) _ h1,hk dx (by simp) _ h2,hl,RepOs.frame s (λb hb=>hk b (by simp[hb])) h3⟩
theorem RepOs.frame (s:Same F F'):∀{ts:List OV} {vs:List V} {A:List Addr},(∀a∈A,∀xs,H a=some xs->H' a=some xs)->RepOs K F H ts vs A->RepOs K F' H' ts vs A
 | [],vs,A,_,h=>h
 |t::ts,vs,A,hk,h=>by
  obtain⟨v,r,B,C,e,rfl,h1,h2⟩:=h
  exact⟨v,r,B,C,e,rfl,RepO.frame s (λb hb=>hk b (mem_append_left _ hb)) h1,RepOs.frame s (λb hb=>hk b (mem_append_right _ hb)) h2⟩
end
mutual
theorem RepO.isl:∀{t:OV} {v:V} {A:List Addr},RepO K F H t v A->∀a∈A,∃xs,H a=some xs/\imm xs=false
 | .fz d,v,A,h,a,ha=>by rw[h.1]at ha;cases ha
 | .nl ts,v,A,h,a,ha=>by
  obtain⟨b,vs,B,e,rfl,h1,h2⟩:=h
  rcases mem_cons.mp ha with rfl |z
  .exact ⟨_,h1,rfl⟩
  .exact RepOs.isl h2 a z
 | .rt b ts,v,A,h,a,ha=>by
  obtain⟨vs,B,e,rfl,h1,h2⟩:=h
  rcases mem_cons.mp ha with rfl |z
  .exact ⟨_,h1,rfl⟩
  .exact RepOs.isl h2 a z
 | .fx u d,v,A,h,a,ha=>by rw[h.1]at ha;cases ha
 | .ob o c ns ts,v,A,h,a,ha=>by
  obtain⟨b,C,dx,vs,B,e,rfl,h0,ho,h1,h2,hl,h3⟩:=h
  rcases mem_cons.mp ha with rfl |z
  .exact ⟨_,h1,rfl⟩
  .rcases mem_cons.mp z with rfl |z
   .exact ⟨_,h2,rfl⟩
   .exact RepOs.isl h3 a z
theorem RepOs.isl:∀{ts:List OV} {vs:List V} {A:List Addr},RepOs K F H ts vs A->∀a∈A,∃xs,H a=some xs/\imm xs=false
 | [],vs,A,h,a,ha=>by rw[h.2]at ha;cases ha
 |t::ts,vs,A,h,a,ha=>by
  obtain⟨v,r,B,C,e,rfl,h1,h2⟩:=h
  rcases mem_append.mp ha with z |z
  .exact RepO.isl h1 a z
  .exact RepOs.isl h2 a z
end
mutual
theorem RepO.rep (s:Same F F'):∀{t:OV} {v:V} {A:List Addr},(∀a∈A,∀xs,H a=some xs->F' a=some xs)->RepO K F H t v A->Rep K F' t.val v
 | .fz d,v,A,_,h=>h.2.mono s
 | .nl ts,v,A,hk,h=>by
  obtain⟨a,vs,B,e,rfl,h1,h2⟩:=h
  exact⟨a,vs,e,SqL.of (hk a mem_cons_self _ h1),RepOs.rep s (λb hb=>hk b (mem_cons_of_mem _ hb)) h2⟩
 | .fx u d,v,A,_,h=>h.2.2.mono s
 | .ob o c ns ts,v,A,hk,h=>by
  obtain⟨a,C,dx,vs,B,e,rfl,h0,ho,h1,h2,hl,h3⟩:=h
  exact⟨a,C,dx,vs,e,h0,hk a (by simp) _ h1,by rw[OV.vals_eq,length_map];exact hl,RepOs.rep s (λb hb=>hk b (by simp[hb])) h3⟩
 | .rt a ts,v,A,hk,h=>by
  obtain⟨vs,B,e,rfl,h1,h2⟩:=h
  exact⟨a,vs,e,SqL.of (hk a mem_cons_self _ h1),RepOs.rep s (λb hb=>hk b (mem_cons_of_mem _ hb)) h2⟩
theorem RepOs.rep (s:Same F F'):∀{ts:List OV} {vs:List V} {A:List Addr},(∀a∈A,∀xs,H a=some xs->F' a=some xs)->RepOs K F H ts vs A->Reps K F' (OV.vals ts) vs
 | [],vs,A,_,h=>h.1
 |t::ts,vs,A,hk,h=>by
  obtain⟨v,r,B,C,e,rfl,h1,h2⟩:=h
  exact⟨v,r,e,RepO.rep s (λb hb=>hk b (mem_append_left _ hb)) h1,RepOs.rep s (λb hb=>hk b (mem_append_right _ hb)) h2⟩
end
theorem RepOs.length:∀{ts:List OV} {vs:List V} {A:List Addr},RepOs K F H ts vs A->ts.length=vs.length
 | [],_,_,h=>by rw[h.1];rfl
 |t::ts,_,_,h=>by
  obtain⟨v,r,B,C,rfl,rfl,h1,h2⟩:=h
  simp[RepOs.length h2]
theorem RepOs.append:∀{ts us:List OV} {vs ws:List V} {A B:List Addr},RepOs K F H ts vs A->RepOs K F H us ws B->RepOs K F H (ts++us) (vs++ws) (A++B)
 | [],_,_,_,_,_,h,g=>by obtain⟨rfl,rfl⟩:=h;exact g
 |t::ts,_,_,_,_,_,h,g=>by
  obtain⟨v,r,B,C,rfl,rfl,h1,h2⟩:=h
  exact⟨v,_,B,_,rfl,by rw[append_assoc],h1,RepOs.append h2 g⟩
theorem RepOs.one {t:OV}{v:V}{A:List Addr}(h:RepO K F H t v A):RepOs K F H [t] [v] A:=⟨v,[],A,[],rfl,by simp,h,rfl,rfl⟩
theorem RepOs.focus:∀{ts:List OV} {vs:List V} {A:List Addr} {i:Nat} {t:OV},RepOs K F H ts vs A->ts[i]?=some t->∃v A1 B A2,vs[i]?=some v/\A=A1++(B++A2)/\RepO K F H t v B/\
  ∀F' H' t' v' B',Same F F'->(∀a∈A1++A2,∀xs,H a=some xs->H' a=some xs)->RepO K F' H' t' v' B'->RepOs K F' H' (ts.set i t') (vs.set i v') (A1++(B'++A2))
 | [],_,_,_,_,_,e=>by simp at e
 |t::ts,_,_,0,t0,h,e=>by
  obtain⟨v,r,B,C,rfl,rfl,h1,h2⟩:=h
  simp at e
  subst e
  refine⟨v,[],B,C,rfl,rfl,h1,λF' H' t' v' B' s hk h'=>?_⟩
  exact⟨v',r,B',C,rfl,rfl,h',RepOs.frame s (λa ha=>hk a ha) h2⟩
 |t::ts,_,_,i+1,t0,h,e=>by
  obtain⟨v,r,B,C,rfl,rfl,h1,h2⟩:=h
  obtain⟨v0,A1,B0,A2,e1,rfl,h3,h4⟩:=RepOs.focus (i:=i) h2 (by simpa using e)
  refine⟨v0,B++A1,B0,A2,by simpa using e1,by simp,h3,λF' H' t' v' B' s hk h'=>?_⟩
  refine⟨v,r.set i v',B,A1++(B'++A2),rfl,by simp,RepO.frame s (λa ha=>hk a (by simp[ha])) h1,h4 F' H' t' v' B' s (λa ha=>hk a ?_) h'⟩
  rcases mem_append.mp ha with z |z<;>simp[z]
theorem RepOs.fzs:∀{ds:List D} {vs:List V},Reps K F ds vs->RepOs K F H (ds.map OV.fz) vs []
 | [],_,h=>⟨h,rfl⟩
 |d::ds,_,h=>by
  obtain⟨v,r,rfl,h1,h2⟩:=h
  exact⟨v,r,[],[],rfl,rfl,⟨rfl,h1⟩,RepOs.fzs h2⟩
end
structure Ext (F H F' H':Hp):Prop where
 ff:Same F F'
 hh:Same H H'
 fh:Same F' H'
 no:∀a o,F a=none->H a=some o->imm o=false->F' a=none
theorem Ext.refl {F H:Hp}(s:Same F H):Ext F H F H:=⟨Same.refl _,Same.refl _,s,λ_ _ h _ _=>h⟩
theorem Ext.trans {F H F' H' F'' H'':Hp}(a:Ext F H F' H')(b:Ext F' H' F'' H''):Ext F H F'' H'':=
 ⟨a.ff.trans b.ff,a.hh.trans b.hh,b.fh,λx o h1 h2 h3=>b.no x o (a.no x o h1 h2 h3) (a.hh _ _ h2) h3⟩
def RepN (K:Frag)(H F' H':Hp)(r:OV)(v:V):Prop:=∃A,RepO K F' H' r v A/\A.Nodup/\∀a∈A,H a=none/\F' a=none
theorem RepN.fz {K:Frag}{H F' H':Hp}{d:D}{v:V}(h:Rep K F' d v):RepN K H F' H' (.fz d) v:=⟨[],⟨rfl,h⟩,nodup_nil,λ_ h=>by cases h⟩
theorem RepN.old {K:Frag}{H0 H F' H':Hp}{r:OV}{v:V}(s:Same H0 H)(h:RepN K H F' H' r v):RepN K H0 F' H' r v:=by
 obtain⟨A,h1,h2,h3⟩:=h
 exact⟨A,h1,h2,λa ha=>⟨s.free (h3 a ha).1,(h3 a ha).2⟩⟩
theorem RepN.frz {K:Frag}{F H F' H':Hp}{r:OV}{v:V}(x:Ext F H F' H')(h:RepN K H F' H' r v):∃F'',Ext F H F'' H'/\Same F' F''/\Rep K F'' r.val v:=by
 obtain⟨A,h1,h2,h3⟩:=h
 refine⟨λa=>if a∈A then H' a else F' a,⟨λb o e=>?_,x.hh,λb o e=>?_,λa o e1 e2 e3=>?_⟩,λb o e=>?_,?_⟩
 .have hb:b∉A:=λz=>by rw[(x.ff.free (h3 b z).2)]at e;cases e
  rw[if_neg hb];exact x.ff _ _ e
 .try dsimp only at e
  split at e
  .exact e
  .exact x.fh _ _ e
 .have ha:a∉A:=λz=>by rw[(h3 a z).1]at e2;cases e2
  rw[if_neg ha];exact x.no a o e1 e2 e3
 .have hb:b∉A:=λz=>by rw[(h3 b z).2]at e;cases e
  try dsimp only
  rw[if_neg hb];exact e
 .refine h1.rep (λb o e=>?_) λa ha xs e=>?_
  .have hb:b∉A:=λz=>by rw[(h3 b z).2]at e;cases e
   rw[if_neg hb];exact e
  .rw [if_pos ha];exact e
inductive Sl where
 |own (t:OV)
 |bw (d:D)
abbrev Dst:=List (Option Sl)
structure ER (K:Frag) (F0 H0 F H:Hp) (Y:St) (G:Dst) (A:Nat->List Addr):Prop where
 len:Y.length=G.length
 ext:Ext F0 H0 F H
 own:∀(i:Nat) (t:OV),G[i]?=some (some (.own t))->∃v,Y[i]?=some (some v)/\RepO K F H t v (A i)
 bw:∀(i:Nat) (d:D),G[i]?=some (some (.bw d))->∃v,Y[i]?=some (some v)/\Rep K H0 d v
 nod:∀i,(A i).Nodup
 dis:∀i j a,i≠j->a∈A i->a∉A j
 new:∀i a,a∈A i->F a=none/\H0 a=none/\∃xs,H a=some xs/\imm xs=false
def EnvR (K:Frag)(F0 H0 F H:Hp)(Y:St)(G:Dst):Prop:=∃A,ER K F0 H0 F H Y G A
section
variable {K:Frag}{F0 H0 F H F' H':Hp}{Y:St}{G:Dst}{A:Nat->List Addr}
theorem ER.on (e:ER K F0 H0 F H Y G A)(x:Ext F H F' H'):ER K F0 H0 F' H' Y G A where
 len:=e.len
 ext:=e.ext.trans x
 own:=λi t h=>by
  obtain⟨v,h1,h2⟩:=e.own i t h
  exact⟨v,h1,h2.frame x.ff λa _ xs z=>x.hh _ _ z⟩
 bw:=e.bw
 nod:=e.nod
 dis:=e.dis
 new:=λi a ha=>by
  obtain⟨h1,h2,xs,h3,h4⟩:=e.new i a ha
  exact⟨x.no a _ h1 h3 h4,h2,xs,x.hh _ _ h3,h4⟩
theorem EnvR.on (e:EnvR K F0 H0 F H Y G)(x:Ext F H F' H'):EnvR K F0 H0 F' H' Y G:=let⟨A,e⟩:=e;⟨A,e.on x⟩
theorem EnvR.ext (e:EnvR K F0 H0 F H Y G):Ext F0 H0 F H:=let⟨_,e⟩:=e;e.ext
theorem EnvR.put (e:EnvR K F0 H0 F H Y G)(x:Ext F H F' H')(i:Nat){r:OV}{v:V}(h:RepN K H F' H' r v):EnvR K F0 H0 F' H' (Y.set i (some v)) (G.set i (some (.own r))):=by
 obtain⟨A,e⟩:=e
 obtain⟨B,b1,b2,b3⟩:=h
 have e':=e.on x
 refine⟨λj=>if j=i then B else A j,by simp[e.len],e'.ext,λj t hj=>?_,λj d hj=>?_,λj=>?_,λj k a hjk h1 h2=>?_,λj a ha=>?_⟩
 .try dsimp only
  by_cases z:j=i
  .subst z
   rw[if_pos rfl]
   have hl:j<G.length:=by
    have:=(List.getElem?_eq_some_iff.mp hj).1
    rwa[length_set]at this
   rw[getElem?_set_self hl]at hj
   cases hj
   exact⟨v,getElem?_set_self (by rw[e.len];exact hl),b1⟩
  .rw [if_neg z]
   rw[getElem?_set_ne (Ne.symm z)]at hj ⊢
   exact e'.own j t hj
 .by_cases z:j=i
  .subst z
   have hl:j<G.length:=by
    have:=(List.getElem?_eq_some_iff.mp hj).1
    rwa[length_set]at this
   rw[getElem?_set_self hl]at hj
   cases hj
  .rw [getElem?_set_ne (Ne.symm z)]at hj ⊢
   exact e'.bw j d hj
 .try dsimp only
  split
  .exact b2
  .exact e.nod j
 .try dsimp only at h1 h2
  have key:∀k,a∈B->a∈A k->False:=λk z1 z2=>by
   obtain⟨_,_,xs,q,_⟩:=e.new k a z2
   rw[(b3 a z1).1]at q;cases q
  split at h1
  .split at h2
   .omega
   .exact key _ h1 h2
  .split at h2
   .exact key _ h2 h1
   .exact e.dis j k a hjk h1 h2
 .try dsimp only at ha
  split at ha
  .exact ⟨(b3 a ha).2,e.ext.hh.free (b3 a ha).1,b1.isl a ha⟩
  .exact e'.new j a ha
theorem ER.putFz (e:ER K F0 H0 F H Y G A)(i:Nat){d:D}{v:V}(h:Rep K F d v):ER K F0 H0 F H (Y.set i (some v)) (G.set i (some (.own (.fz d)))) (λj=>if j=i then [] else A j):=by
 refine⟨by simp[e.len],e.ext,λj t hj=>?_,λj d hj=>?_,λj=>?_,λj k a hjk h1 h2=>?_,λj a ha=>?_⟩
 .try dsimp only
  by_cases z:j=i
  .subst z
   rw[if_pos rfl]
   have hl:j<G.length:=by
    have:=(List.getElem?_eq_some_iff.mp hj).1
    rwa[length_set]at this
   rw[getElem?_set_self hl]at hj
   cases hj
   exact⟨v,getElem?_set_self (by rw[e.len];exact hl),rfl,h⟩
  .rw [if_neg z]
   rw[getElem?_set_ne (Ne.symm z)]at hj ⊢
   exact e.own j t hj
 .by_cases z:j=i
  .subst z
   have hl:j<G.length:=by
    have:=(List.getElem?_eq_some_iff.mp hj).1
    rwa[length_set]at this
   rw[getElem?_set_self hl]at hj
   cases hj
  .rw [getElem?_set_ne (Ne.symm z)]at hj ⊢
   exact e.bw j d hj
 .try dsimp only
  split
  .exact nodup_nil
  .exact e.nod j
 .try dsimp only at h1 h2
  split at h1
  .cases h1
  .split at h2
   .cases h2
   .exact e.dis j k a hjk h1 h2
 .try dsimp only at ha
  split at ha
  .cases ha
  .exact e.new j a ha
end
abbrev DE:=Dst->(D->Prop)->Prop
abbrev DO:=Dst->(OV->Prop)->Prop
abbrev DA:=Dst->(List D->Prop)->Prop
abbrev DAO:=Dst->(List OV->Prop)->Prop
abbrev DT:=Dst->(Bool->Prop)->Prop
structure DEnds where
 nx:Dst->Prop
 rt:OV->Prop
 bk:Dst->Prop:=λ_=>False
 ct:Dst->Prop:=λ_=>False
abbrev DS:=DEnds->Dst->Prop
section
variable (K:Frag)
def SimO (t:TE)(E:DO):Prop:=∀F0 H0 F H Y G P Q,EnvR K F0 H0 F H Y G->E G P->(∀r v F' H',P r->Ext F H F' H'->RepN K H F' H' r v->Q v H')->t Y H Q
def SimF (t:TE)(E:DE):Prop:=∀F0 H0 F H Y G P Q,EnvR K F0 H0 F H Y G->E G P->(∀d v F' H',P d->Ext F H F' H'->Rep K F' d v->Q v H')->t Y H Q
def SimB (t:TE)(E:DE):Prop:=∀F0 H0 F H Y G P Q,EnvR K F0 H0 F H Y G->E G P->(∀d v F' H',P d->Ext F H F' H'->Rep K H' d v->Q v H')->t Y H Q
def SimT (t:TT)(C:DT):Prop:=∀F0 H0 F H Y G P Q,EnvR K F0 H0 F H Y G->C G P->(∀b F' H',P b->Ext F H F' H'->Q b H')->t Y H Q
def SimAF (t:TA)(E:DA):Prop:=∀F0 H0 F H Y G P Q,EnvR K F0 H0 F H Y G->E G P->(∀ds vs F' H',P ds->Ext F H F' H'->Reps K F' ds vs->Q vs H')->t Y H Q
def SimAB (t:TA)(E:DA):Prop:=∀F0 H0 F H Y G P Q,EnvR K F0 H0 F H Y G->E G P->(∀ds vs F' H',P ds->Ext F H F' H'->Reps K H' ds vs->Q vs H')->t Y H Q
def RepNs (H F' H':Hp)(rs:List OV)(vs:List V):Prop:=∃A,RepOs K F' H' rs vs A/\A.Nodup/\∀a∈A,H a=none/\F' a=none
def SimAO (t:TA)(E:DAO):Prop:=∀F0 H0 F H Y G P Q,EnvR K F0 H0 F H Y G->E G P->(∀rs vs F' H',P rs->Ext F H F' H'->RepNs K H F' H' rs vs->Q vs H')->t Y H Q
structure Lk (F0 H0:Hp) (De:DEnds) (E:Ends):Prop where
 nx:∀F H Y G,EnvR K F0 H0 F H Y G->De.nx G->E.nx Y H
 bk:∀F H Y G,EnvR K F0 H0 F H Y G->De.bk G->E.bk Y H
 ct:∀F H Y G,EnvR K F0 H0 F H Y G->De.ct G->E.ct Y H
 rt:∀F H r v,Ext F0 H0 F H->RepN K H0 F H r v->De.rt r->E.rt v H
def SimS (t:TS)(T:DS):Prop:=∀F0 H0 F H Y G De E,EnvR K F0 H0 F H Y G->Lk K F0 H0 De E->T De G->t E Y H
def SimG (g:TG)(δ:D->Dst->(Dst->Prop)->Prop):Prop:=∀F0 H0 F H Y G A d v P Q,ER K F0 H0 F H Y G A->Rep K F d v->δ d G P->(∀Y' G' A',P G'->ER K F0 H0 F H Y' G' A'->(∀i a,a∈A' i->a∈A i)->Q Y' H)->g v Y H Q
def SimGs (g:TGs)(δ:List D->Dst->(Dst->Prop)->Prop):Prop:=∀F0 H0 F H Y G A ds vs P Q,ER K F0 H0 F H Y G A->Reps K F ds vs->δ ds G P->(∀Y' G' A',P G'->ER K F0 H0 F H Y' G' A'->(∀i a,a∈A' i->a∈A i)->Q Y' H)->g vs Y H Q
end
section
variable {K:Frag}{t ta tb tc:TE}{E Ea Eb Ec:DE}
def dFz (E:DE):DO:=λG P=>E G λd=>P (.fz d)
def dVal (E:DO):DE:=λG P=>E G λr=>P r.val
theorem sB_f (h:SimF K t E):SimB K t E:=λF0 H0 F H Y G P Q e w q=>h F0 H0 F H Y G P Q e w λd v F' H' p x r=>q d v F' H' p x (r.mono x.fh)
theorem sO_f (h:SimF K t E):SimO K t (dFz E):=λF0 H0 F H Y G P Q e w q=>h F0 H0 F H Y G _ Q e w λd v F' H' p x r=>q _ v F' H' p x (.fz r)
theorem sF_o {E:DO}(h:SimO K t E):SimF K t (dVal E):=λF0 H0 F H Y G P Q e w q=>h F0 H0 F H Y G _ Q e w λd v F' H' p x r=>by
 obtain⟨F'',x',_,r'⟩:=r.frz x
 exact q _ v F'' H' p x' r'
mutual
def D.lf:D->Bool
 | .tup ds=>D.lfs ds
 | .lst _=>false
 | .dic=>false
 | .exc _=>false
 | .obj _ _ _=>false
 |_=>true
def D.lfs:List D->Bool
 | []=>true
 |d::ds=>d.lf && D.lfs ds
end
def frzT (F H:Hp):Hp:=λa=>match F a with
 |some o=>some o
 |none=>match H a with
  |some o=>if imm o=true then some o else none
  |none=>none
theorem frzT_ext {F H:Hp}(s:Same F H):Ext F H (frzT F H) H:=by
 refine⟨λb o e=>?_,Same.refl _,λb o e=>?_,λa o e1 e2 e3=>?_⟩
 .unfold frzT;rw[e]
 .unfold frzT at e
  cases q:F b with
  |some o'=>rw[q]at e;rw[<- e];exact s _ _ q
  |none=>
   rw[q]at e
   cases q2:H b with
   |none=>rw[q2]at e;cases e
   |some o'=>
    rw[q2]at e
    dsimp only at e
    split at e
    .exact e
    .cases e
 .unfold frzT;rw[e1,e2]
  dsimp only
  rw[e3];rfl
theorem frzT_imm {F H:Hp}(s:Same F H){a:Addr}{o:HO}(h:H a=some o)(hi:imm o=true):frzT F H a=some o:=by
 unfold frzT
 cases q:F a with
 |some o'=>rw[s _ _ q]at h;exact h
 |none=>rw[h];dsimp only;rw[hi];rfl
theorem frzT_seqT {F H:Hp}(s:Same F H){a:Addr}{xs:List V}(h:SqT K H a xs):SqT K (frzT F H) a xs:=by
 rcases h with (h | ⟨o,h⟩) |h
 .exact .inl (.inl (frzT_imm s h rfl))
 .exact .inl (.inr ⟨o,frzT_imm s h rfl⟩)
 .exact .inr h
mutual
theorem Rep.lf {F H:Hp}(s:Same F H):∀{d:D} {v:V},Rep K H d v->d.lf=true->Rep K (frzT F H) d v
 | .int _,_,h,_=>h
 | .bl _,_,h,_=>h
 | .non,_,h,_=>h
 | .str _,_,h,_=>h
 | .ty _,_,h,_=>h
 | .fn _,_,h,_=>h
 | .tup ds,v,h,z=>by
  obtain⟨a,vs,e,h1,h2⟩:=h
  exact⟨a,vs,e,frzT_seqT s h1,Reps.lf s h2 (by simpa[D.lf] using z)⟩
 | .lst ds,v,h,z=>by simp[D.lf]at z
 | .dic,v,h,z=>by simp[D.lf]at z
 | .exc _,v,h,z=>by simp[D.lf]at z
 | .obj _ _ _,v,h,z=>by simp[D.lf]at z
theorem Reps.lf {F H:Hp}(s:Same F H):∀{ds:List D} {vs:List V},Reps K H ds vs->D.lfs ds=true->Reps K (frzT F H) ds vs
 | [],_,h,_=>h
 |d::ds,vs,h,z=>by
  obtain⟨v,r,e,h1,h2⟩:=h
  simp[D.lfs]at z
  exact⟨v,r,e,Rep.lf s h1 z.1,Reps.lf s h2 z.2⟩
end
theorem D.lfs_eq:∀(ds:List D),D.lfs ds=ds.all D.lf
 | []=>rfl
 |d::ds=>by simp[D.lfs,D.lfs_eq ds]
def dLf (E:DE):DE:=λG P=>E G λd=>d.lf=true/\P d
theorem sF_lf (h:SimB K t E):SimF K t (dLf E):=λF0 H0 F H Y G P Q e w q=>h F0 H0 F H Y G _ Q e w λd v F' H' p x r=>
 q d v _ H' p.2 (x.trans (frzT_ext x.fh)) (Rep.lf x.fh r p.1)
def dV (i:Nat):DE:=λG P=>match G[i]? with
 |some (some (.own (.fz d)))=>P d
 |some (some (.own (.fx _ d)))=>P d
 |_=>False
def dB (i:Nat):DE:=λG P=>match G[i]? with
 |some (some (.own t))=>P t.val
 |some (some (.bw d))=>P d
 |_=>False
theorem sF_var {i:Nat}:SimF K (tVar i) (dV i):=λF0 H0 F H Y G P Q ⟨A,e⟩ w q=>by
 unfold dV at w
 split at w
 .rename_i d hd
  obtain⟨v,h1,h2⟩:=e.own i _ hd
  exact⟨v,h1,q d v F H w (Ext.refl e.ext.fh) h2.2⟩
 .rename_i u d hd
  obtain⟨v,h1,h2⟩:=e.own i _ hd
  exact⟨v,h1,q d v F H w (Ext.refl e.ext.fh) h2.2.2⟩
 .exact w.elim
theorem sB_var {i:Nat}:SimB K (tVar i) (dB i):=λF0 H0 F H Y G P Q ⟨A,e⟩ w q=>by
 unfold dB at w
 split at w
 .rename_i t hd
  obtain⟨v,h1,h2⟩:=e.own i _ hd
  exact⟨v,h1,q _ v F H w (Ext.refl e.ext.fh) (h2.rep e.ext.fh λa _ xs z=>z)⟩
 .rename_i d hd
  obtain⟨v,h1,h2⟩:=e.bw i _ hd
  exact⟨v,h1,q _ v F H w (Ext.refl e.ext.fh) (h2.mono e.ext.hh)⟩
 .exact w.elim
def dC (d:D):DE:=λ_ P=>P d
theorem sF_c {v:V}{d:D}(h:∀F,Rep K F d v):SimF K (tC v) (dC d):=λF0 H0 F H Y G P Q e w q=>q d v F H w (Ext.refl e.ext.fh) (h _)
theorem sF_int {i:Int}:SimF K (tC (.int i)) (dC (.int i)):=sF_c λ_=>rfl
theorem sF_bl {b:Bool}:SimF K (tC (.bl b)) (dC (.bl b)):=sF_c λ_=>rfl
theorem sF_str {x:Str}:SimF K (tC (.str x)) (dC (.str x)):=sF_c λ_=>rfl
theorem sF_ty {n:String}:SimF K (tC (.ty n)) (dC (.ty n)):=sF_c λ_=>rfl
abbrev DR2:=D->D->(D->Prop)->Prop
def OpS (K:Frag)(R:R2)(r:DR2):Prop:=∀F H x y v u P Q,Same F H->Rep K H x v->Rep K H y u->r x y P->(∀d w F' H',P d->Ext F H F' H'->Rep K F' d w->Q w H')->R v u H Q
def OpB (K:Frag)(R:R2)(r:DR2):Prop:=∀H x y v u P Q,Rep K H x v->Rep K H y u->r x y P->(∀d w,P d->Rep K H d w->Q w H)->R v u H Q
def dOp (r:DR2)(Ea Eb:DE):DE:=λG P=>Ea G λx=>Eb G λy=>r x y P
theorem sF_op {R:R2}{r:DR2}(h:OpS K R r)(ha:SimB K ta Ea)(hb:SimB K tb Eb):SimF K (tOp R ta tb) (dOp r Ea Eb):=λF0 H0 F H Y G P Q e w q=>
 ha F0 H0 F H Y G _ _ e w λx v F1 H1 w1 x1 r1=>hb F0 H0 F1 H1 Y G _ _ (e.on x1) w1 λy u F2 H2 w2 x2 r2=>
  h F2 H2 x y v u P _ x2.fh (r1.mono x2.hh) r2 w2 λd w F' H' p x' r'=>q d w F' H' p (x1.trans (x2.trans x')) r'
theorem sB_op {R:R2}{r:DR2}(h:OpB K R r)(ha:SimB K ta Ea)(hb:SimB K tb Eb):SimB K (tOp R ta tb) (dOp r Ea Eb):=λF0 H0 F H Y G P Q e w q=>
 ha F0 H0 F H Y G _ _ e w λx v F1 H1 w1 x1 r1=>hb F0 H0 F1 H1 Y G _ _ (e.on x1) w1 λy u F2 H2 w2 x2 r2=>
  h H2 x y v u P _ (r1.mono x2.hh) r2 w2 λd w p r'=>q d w F2 H2 p (x1.trans x2) r'
def rI2 (g:Int->Int->D):DR2:=λx y P=>match x,y with
 | .int i,.int j=>P (g i j)
 |_,_=>False
def rI2C (C:Int->Int->Prop)(g:Int->Int->D):DR2:=λx y P=>match x,y with
 | .int i,.int j=>C i j/\P (g i j)
 |_,_=>False
theorem rI2_inv {g:Int->Int->D}{x y:D}{P:D->Prop}(h:rI2 g x y P):∃i j,x = .int i/\y = .int j/\P (g i j):=by
 unfold rI2 at h
 split at h
 .exact ⟨_,_,rfl,rfl,h⟩
 .exact h.elim
theorem rI2C_inv {C:Int->Int->Prop}{g:Int->Int->D}{x y:D}{P:D->Prop}(h:rI2C C g x y P):∃i j,x = .int i/\y = .int j/\C i j/\P (g i j):=by
 unfold rI2C at h
 split at h
 .exact ⟨_,_,rfl,rfl,h.1,h.2⟩
 .exact h.elim
theorem oS_I0 {g:Int->Int->V}{g':Int->Int->D}(hg:∀F i j,Rep K F (g' i j) (g i j)):OpS K (rI0 g) (rI2 g'):=λF H x y v u P Q s rx ry w q=>by
 obtain⟨i,j,rfl,rfl,p⟩:=rI2_inv w
 exact⟨i,j,rx,ry,q _ _ F H p (Ext.refl s) (hg _ _ _)⟩
theorem oS_I {C:Int->Int->Prop}{g:Int->Int->V}{g':Int->Int->D}(hg:∀F i j,Rep K F (g' i j) (g i j)):OpS K (rI C g) (rI2C C g'):=λF H x y v u P Q s rx ry w q=>by
 obtain⟨i,j,rfl,rfl,c,p⟩:=rI2C_inv w
 exact⟨i,j,rx,ry,c,q _ _ F H p (Ext.refl s) (hg _ _ _)⟩
theorem oS_i0 {g:Int->Int->Int}:OpS K (rI0 λi j=>.int (g i j)) (rI2 λi j=>.int (g i j)):=oS_I0 λ_ _ _=>rfl
theorem oS_i {C:Int->Int->Prop}{g:Int->Int->Int}:OpS K (rI C λi j=>.int (g i j)) (rI2C C λi j=>.int (g i j)):=oS_I λ_ _ _=>rfl
theorem oS_b0 {g:Int->Int->Bool}:OpS K (rI0 λi j=>.bl (g i j)) (rI2 λi j=>.bl (g i j)):=oS_I0 λ_ _ _=>rfl
def rEqD:DR2:=λx y P=>match x,y with
 | .int i,.int j=>P (.bl (decide (i=j)))
 | .str i,.str j=>P (.bl (decide (i=j)))
 | .bl i,.bl j=>P (.bl (decide (i=j)))
 |_,_=>False
def rNeD:DR2:=λx y P=>match x,y with
 | .int i,.int j=>P (.bl (!decide (i=j)))
 | .str i,.str j=>P (.bl (!decide (i=j)))
 | .bl i,.bl j=>P (.bl (!decide (i=j)))
 |_,_=>False
theorem vd_int {i j:Int}:decide (V.int i=V.int j)=decide (i=j):=by
 by_cases h:i=j
 .subst h;simp
 .rw [decide_eq_false h,decide_eq_false λz=>h (by injection z)]
theorem vd_str {i j:Str}:decide (V.str i=V.str j)=decide (i=j):=by
 by_cases h:i=j
 .subst h;simp
 .rw [decide_eq_false h,decide_eq_false λz=>h (by injection z)]
theorem vd_bl {i j:Bool}:decide (V.bl i=V.bl j)=decide (i=j):=by
 by_cases h:i=j
 .subst h;simp
 .rw [decide_eq_false h,decide_eq_false λz=>h (by injection z)]
theorem oS_eq:OpS K rEq rEqD:=λF H x y v u P Q s rx ry w q=>by
 unfold rEqD at w
 split at w
 .cases rx;cases ry;exact⟨rfl,by rw[vd_int];exact q _ _ F H w (Ext.refl s) rfl⟩
 .cases rx;cases ry;exact⟨rfl,by rw[vd_str];exact q _ _ F H w (Ext.refl s) rfl⟩
 .cases rx;cases ry;exact⟨rfl,by rw[vd_bl];exact q _ _ F H w (Ext.refl s) rfl⟩
 .exact w.elim
theorem oS_ne:OpS K rNe rNeD:=λF H x y v u P Q s rx ry w q=>by
 unfold rNeD at w
 split at w
 .cases rx;cases ry;exact⟨rfl,by rw[vd_int];exact q _ _ F H w (Ext.refl s) rfl⟩
 .cases rx;cases ry;exact⟨rfl,by rw[vd_str];exact q _ _ F H w (Ext.refl s) rfl⟩
 .cases rx;cases ry;exact⟨rfl,by rw[vd_bl];exact q _ _ F H w (Ext.refl s) rfl⟩
 .exact w.elim
def dUn (r:D->(D->Prop)->Prop)(Ea:DE):DE:=λG P=>Ea G λx=>r x P
def rU1 (g:Int->D):D->(D->Prop)->Prop:=λx P=>match x with
 | .int i=>P (g i)
 |_=>False
theorem sF_neg {g:Int->Int}(ha:SimB K ta Ea):SimF K (tUn (rU λi=>.int (g i)) ta) (dUn (rU1 λi=>.int (g i)) Ea):=λF0 H0 F H Y G P Q e w q=>
 ha F0 H0 F H Y G _ _ e w λx v F1 H1 w1 x1 r1=>by
  unfold rU1 at w1
  split at w1
  .exact ⟨_,r1,q _ _ F1 H1 w1 x1 rfl⟩
  .exact w1.elim
def dTb (E:DE):DT:=λG P=>E G λd=>match d with
 | .bl b=>P b
 |_=>False
theorem sT_of (h:SimF K t E):∀(F0 H0 F H:Hp) (Y:St) (G:Dst) (P:Bool->Prop) (Q:Bool->Hp->Prop),EnvR K F0 H0 F H Y G->dTb E G P->(∀b F' H',P b->Ext F H F' H'->Q b H')->t Y H λx H'=>∃k,x = .bl k/\Q k H':=λF0 H0 F H Y G P Q e w q=>
 h F0 H0 F H Y G _ _ e w λd v F' H' p x r=>by
  try dsimp only at p
  split at p
  .exact ⟨_,r,q _ F' H' p x⟩
  .exact p.elim
theorem sT_test (h:SimF K t E):SimT K (tTest t) (dTb E):=sT_of h
theorem sT_b (h:SimF K t E):SimT K (tB t) (dTb E):=sT_of h
section
variable {ua ub:TT}{Ca Cb:DT}
def dNot (C:DT):DT:=λG P=>C G λb=>P (!b)
def dAnd (Ca Cb:DT):DT:=λG P=>Ca G λb=>if b=true then Cb G P else P false
def dOr (Ca Cb:DT):DT:=λG P=>Ca G λb=>if b=true then P true else Cb G P
theorem sT_not (h:SimT K ua Ca):SimT K (tNot ua) (dNot Ca):=λF0 H0 F H Y G P Q e w q=>h F0 H0 F H Y G _ _ e w λb F' H' p x=>q _ F' H' p x
theorem sT_and (h:SimT K ua Ca)(g:SimT K ub Cb):SimT K (tAnd ua ub) (dAnd Ca Cb):=λF0 H0 F H Y G P Q e w q=>h F0 H0 F H Y G _ _ e w λb F' H' p x=>by
 cases b with
 |true=>exact iteT (g F0 H0 F' H' Y G P Q (e.on x) p λb F2 H2 p2 x2=>q b F2 H2 p2 (x.trans x2))
 |false=>exact iteB rfl (q _ F' H' p x)
theorem sT_or (h:SimT K ua Ca)(g:SimT K ub Cb):SimT K (tOr ua ub) (dOr Ca Cb):=λF0 H0 F H Y G P Q e w q=>h F0 H0 F H Y G _ _ e w λb F' H' p x=>by
 cases b with
 |true=>exact iteT (q _ F' H' p x)
 |false=>exact iteB rfl (g F0 H0 F' H' Y G P Q (e.on x) p λb F2 H2 p2 x2=>q b F2 H2 p2 (x.trans x2))
end
def dAndV (Ea Eb:DE):DE:=λG P=>Ea G λx=>match x with
 | .bl c=>if c=true then Eb G P else P (.bl false)
 |_=>False
def dNotV (Ea:DE):DE:=λG P=>Ea G λx=>match x with
 | .bl c=>P (.bl (!c))
 |_=>False
theorem sF_andV (ha:SimF K ta Ea)(hb:SimF K tb Eb):SimF K (tAndV ta tb) (dAndV Ea Eb):=λF0 H0 F H Y G P Q e w q=>ha F0 H0 F H Y G _ _ e w λd v F' H' p x r=>by
 try dsimp only at p
 split at p
 .rename_i c
  refine⟨c,r,?_⟩
  cases c with
  |true=>exact iteT (hb F0 H0 F' H' Y G P Q (e.on x) p λd v F2 H2 p2 x2 r=>q d v F2 H2 p2 (x.trans x2) r)
  |false=>exact iteB rfl (q _ _ F' H' p x rfl)
 .exact p.elim
theorem sF_notV (ha:SimF K ta Ea):SimF K (tNotV ta) (dNotV Ea):=λF0 H0 F H Y G P Q e w q=>ha F0 H0 F H Y G _ _ e w λd v F' H' p x r=>by
 try dsimp only at p
 split at p
 .exact ⟨_,r,q _ _ F' H' p x rfl⟩
 .exact p.elim
def dChain (r r':DR2)(Ea Eb Ec:DE):DE:=λG P=>Ea G λx=>Eb G λy=>r x y λz=>match z with
 | .bl k=>if k=true then Ec G λw=>r' y w P else P (.bl false)
 |_=>False
theorem sF_chain {R R':R2}{r r':DR2}(h:OpS K R r)(h':OpS K R' r')(ha:SimB K ta Ea)(hb:SimB K tb Eb)(hc:SimB K tc Ec):SimF K (tChain R R' ta tb tc) (dChain r r' Ea Eb Ec):=λF0 H0 F H Y G P Q e w q=>
 ha F0 H0 F H Y G _ _ e w λx v F1 H1 w1 x1 r1=>hb F0 H0 F1 H1 Y G _ _ (e.on x1) w1 λy u F2 H2 w2 x2 r2=>
  h F2 H2 x y v u _ _ x2.fh (r1.mono x2.hh) r2 w2 λd w F3 H3 p x3 r3=>by
   have x13:=x1.trans (x2.trans x3)
   try dsimp only at p
   split at p
   .rename_i k
    refine⟨k,r3,?_⟩
    cases k with
    |true=>exact iteT (hc F0 H0 F3 H3 Y G _ _ (e.on x13) p λz w4 F4 H4 p4 x4 r4=>h' F4 H4 y z u w4 P Q x4.fh (r2.mono (x3.hh.trans x4.hh)) r4 p4 λd w F5 H5 p5 x5 r5=>q d w F5 H5 p5 (x13.trans (x4.trans x5)) r5)
    |false=>exact iteB rfl (q _ _ F3 H3 p x13 rfl)
   .exact p.elim
section
variable {a:TA}{As:DA}
def dNil:DA:=λ_ P=>P []
def dCons (Ea:DE)(As:DA):DA:=λG P=>Ea G λd=>As G λds=>P (d::ds)
theorem sAB_nil:SimAB K tNil dNil:=λF0 H0 F H Y G P Q e w q=>q [] [] F H w (Ext.refl e.ext.fh) rfl
theorem sAF_nil:SimAF K tNil dNil:=λF0 H0 F H Y G P Q e w q=>q [] [] F H w (Ext.refl e.ext.fh) rfl
theorem sAB_cons (ha:SimB K ta Ea)(hr:SimAB K a As):SimAB K (tCons ta a) (dCons Ea As):=λF0 H0 F H Y G P Q e w q=>ha F0 H0 F H Y G _ _ e w λd v F1 H1 w1 x1 r1=>
 hr F0 H0 F1 H1 Y G _ _ (e.on x1) w1 λds vs F2 H2 w2 x2 r2=>q (d::ds) (v::vs) F2 H2 w2 (x1.trans x2) ⟨v,vs,rfl,r1.mono x2.hh,r2⟩
theorem sAF_cons (ha:SimF K ta Ea)(hr:SimAF K a As):SimAF K (tCons ta a) (dCons Ea As):=λF0 H0 F H Y G P Q e w q=>ha F0 H0 F H Y G _ _ e w λd v F1 H1 w1 x1 r1=>
 hr F0 H0 F1 H1 Y G _ _ (e.on x1) w1 λds vs F2 H2 w2 x2 r2=>q (d::ds) (v::vs) F2 H2 w2 (x1.trans x2) ⟨v,vs,rfl,r1.mono x2.ff,r2⟩
def dNilO:DAO:=λ_ P=>P []
def dConsO (Ea:DO)(As:DAO):DAO:=λG P=>Ea G λd=>As G λds=>P (d::ds)
theorem sAO_nil:SimAO K tNil dNilO:=λF0 H0 F H Y G P Q e w q=>q [] [] F H w (Ext.refl e.ext.fh) ⟨[],⟨rfl,rfl⟩,nodup_nil,λ_ h=>by cases h⟩
theorem sAO_cons {Eo:DO}{Ao:DAO}(ha:SimO K ta Eo)(hr:SimAO K a Ao):SimAO K (tCons ta a) (dConsO Eo Ao):=λF0 H0 F H Y G P Q e w q=>ha F0 H0 F H Y G _ _ e w λd v F1 H1 w1 x1 r1=>
 hr F0 H0 F1 H1 Y G _ _ (e.on x1) w1 λds vs F2 H2 w2 x2 r2=>q (d::ds) (v::vs) F2 H2 w2 (x1.trans x2) (by
  obtain⟨A,a1,a2,a3⟩:=r1
  obtain⟨B,b1,b2,b3⟩:=r2
  refine⟨A++B,⟨v,vs,A,B,rfl,rfl,a1.frame x2.ff λa _ xs e=>x2.hh _ _ e,b1⟩,nodup_append.mpr ⟨a2,b2,λx hx y hy z=>?_⟩,λz hz=>?_⟩
  .subst z
   obtain⟨xs,hxs,_⟩:=a1.isl _ hx
   rw[(b3 _ hy).1]at hxs;cases hxs
  .rcases mem_append.mp hz with h |h
   .obtain ⟨xs,hxs,hxi⟩:=a1.isl _ h
    exact⟨(a3 z h).1,x2.no z _ (a3 z h).2 hxs hxi⟩
   .exact ⟨x1.hh.free (b3 z h).1,(b3 z h).2⟩)
def dTup (As:DA):DE:=λG P=>As G λds=>ds.length<=1000000/\P (.tup ds)
theorem sz_le {n:Nat}(h:n<=1000000):n<=sizeLine:=by rw[sizeLine_eq];omega
theorem sz_lt {n:Nat}(h:n<1000000):n<sizeLine:=by rw[sizeLine_eq];omega
theorem Ext.new {F H H':Hp}{p:Addr}{o:HO}(s:Same F H)(hp:H p=none)(hs:Same H H')(h:H' p=some o):Ext F H (upd F p o) H':=by
 refine⟨λb u e=>?_,hs,λb u e=>?_,λb u e1 e2 e3=>?_⟩
 .rw [upd_ne λz=>by rw[z,s.free hp]at e;cases e];exact e
 .by_cases hb:b=p
  .subst hb;rw[upd_same]at e;rw[<- e];exact h
  .rw [upd_ne hb]at e;exact hs _ _ (s _ _ e)
 .rw [upd_ne λz=>by rw[z,hp]at e2;cases e2];exact e1
theorem Same.upd' {F:Hp}{p:Addr}{o:HO}(h:F p=none):Same F (upd F p o):=Same.new h
theorem sF_tup (h:SimAF K a As):SimF K (tTupS a) (dTup As):=λF0 H0 F H Y G P Q e w q=>h F0 H0 F H Y G _ _ e w λds vs F1 H1 w1 x1 r1=>by
 have hl:=r1.length
 refine⟨sz_le (by omega),λp H' hp hs he=>?_⟩
 exact q _ _ _ H' w1.2 (x1.trans (Ext.new x1.fh hp hs he)) ⟨p,vs,rfl,.inl (.inl upd_same),r1.mono (Same.upd' (x1.fh.free hp))⟩
def dLst (As:DAO):DO:=λG P=>As G λts=>ts.length<=1000000/\P (.nl ts)
theorem sO_lst {Ao:DAO}(h:SimAO K a Ao):SimO K (tLstS a) (dLst Ao):=λF0 H0 F H Y G P Q e w q=>h F0 H0 F H Y G _ _ e w λts vs F1 H1 w1 x1 r1=>by
 obtain⟨A,a1,a2,a3⟩:=r1
 have hl:=a1.length
 refine⟨sz_le (by omega),λp H' hp hs he=>?_⟩
 refine q _ _ F1 H' w1.2 (x1.trans ⟨Same.refl _,hs,x1.fh.trans hs,λ_ _ z _ _=>z⟩) ⟨p::A,⟨p,vs,A,rfl,rfl,he,a1.frame (Same.refl _) λb _ xs z=>hs _ _ z⟩,nodup_cons.mpr ⟨λz=>?_,a2⟩,λb hb=>?_⟩
 .obtain ⟨xs,z,_⟩:=a1.isl p z
  rw[hp]at z;cases z
 .rcases mem_cons.mp hb with rfl |hb
  .exact ⟨x1.hh.free hp,x1.fh.free hp⟩
  .exact a3 b hb
end
end
section
variable {K:Frag}{t ta tb tc:TE}{E Ea Eb Ec:DE}{a:TA}{As:DA}{Ao:DAO}
theorem Reps.atI {F:Hp}{ds:List D}{vs:List V}{i:Int}{d:D}(h:Reps K F ds vs)(e:L2.atI ds i=some d):∃v,L2.atI vs i=some v/\Rep K F d v:=by
 unfold L2.atI at e ⊢
 rw[h.length]at e
 cases q:ixN vs.length i with
 |none=>rw[q]at e;cases e
 |some j=>
  rw[q]at e
  exact h.get e
def ixL:DR2:=λx y P=>match x,y with
 | .lst ds,.int i=>∃d,atI ds i=some d/\P d
 |_,_=>False
def ixT:DR2:=λx y P=>match x,y with
 | .tup ds,.int i=>∃d,atI ds i=some d/\P d
 |_,_=>False
def ixS:DR2:=λx y P=>match x,y with
 | .str z,.int i=>z.length<=1000000/\∃c,atI z.cps.toList i=some c/\P (.str ⟨#[c]⟩)
 |_,_=>False
def OpF (K:Frag)(R:R2)(r:DR2):Prop:=∀F H x y v u P Q,Same F H->Rep K F x v->Rep K F y u->r x y P->(∀d w,P d->Rep K F d w->Q w H)->R v u H Q
theorem OpF.b {R:R2}{r:DR2}(h:OpF K R r):OpB K R r:=λH x y v u P Q rx ry w q=>h H H x y v u P Q (Same.refl _) rx ry w q
theorem sF_opF {R:R2}{r:DR2}(h:OpF K R r)(ha:SimF K ta Ea)(hb:SimF K tb Eb):SimF K (tOp R ta tb) (dOp r Ea Eb):=λF0 H0 F H Y G P Q e w q=>
 ha F0 H0 F H Y G _ _ e w λx v F1 H1 w1 x1 r1=>hb F0 H0 F1 H1 Y G _ _ (e.on x1) w1 λy u F2 H2 w2 x2 r2=>
  h F2 H2 x y v u P _ x2.fh (r1.mono x2.ff) r2 w2 λd w p r'=>q d w F2 H2 p (x1.trans x2) r'
theorem oF_ixL:OpF K (rIxL K) ixL:=λF H x y v u P Q s rx ry w q=>by
 unfold ixL at w
 split at w
 .obtain ⟨d,e,w⟩:=w
  obtain⟨p,vs,rfl,h1,h2⟩:=rx
  obtain⟨v',e',r⟩:=h2.atI e
  exact⟨p,vs,_,v',rfl,ry,s.seq h1,e',q d v' w r⟩
 .exact w.elim
theorem oF_ixT:OpF K (rIxT K) ixT:=λF H x y v u P Q s rx ry w q=>by
 unfold ixT at w
 split at w
 .obtain ⟨d,e,w⟩:=w
  obtain⟨p,vs,rfl,h1,h2⟩:=rx
  obtain⟨v',e',r⟩:=h2.atI e
  exact⟨p,vs,_,v',rfl,ry,s.seqT h1,e',q d v' w r⟩
 .exact w.elim
def CbS (K:Frag)(R:List V->Hp->VK->Prop)(r:List D->(D->Prop)->Prop):Prop:=∀F H ds vs P Q,Same F H->Reps K H ds vs->r ds P->(∀d w F' H',P d->Ext F H F' H'->Rep K F' d w->Q w H')->R vs H Q
def CbO (K:Frag)(R:List V->Hp->VK->Prop)(r:List D->(OV->Prop)->Prop):Prop:=∀F H ds vs P Q,Same F H->Reps K F ds vs->r ds P->(∀o w F' H',P o->Ext F H F' H'->RepN K H F' H' o w->Q w H')->R vs H Q
def dCB (r:List D->(D->Prop)->Prop)(As:DA):DE:=λG P=>As G λds=>r ds P
def dCBo (r:List D->(OV->Prop)->Prop)(As:DA):DO:=λG P=>As G λds=>r ds P
theorem sF_cb {R:List V->Hp->VK->Prop}{r:List D->(D->Prop)->Prop}(h:CbS K R r)(ha:SimAB K a As):SimF K (tCB R a) (dCB r As):=λF0 H0 F H Y G P Q e w q=>
 ha F0 H0 F H Y G _ _ e w λds vs F1 H1 w1 x1 r1=>h F1 H1 ds vs P _ x1.fh r1 w1 λd w F' H' p x' r'=>q d w F' H' p (x1.trans x') r'
theorem sO_cb {R:List V->Hp->VK->Prop}{r:List D->(OV->Prop)->Prop}(h:CbO K R r)(ha:SimAF K a As):SimO K (tCB R a) (dCBo r As):=λF0 H0 F H Y G P Q e w q=>
 ha F0 H0 F H Y G _ _ e w λds vs F1 H1 w1 x1 r1=>h F1 H1 ds vs P _ x1.fh r1 w1 λd w F' H' p x' r'=>q d w F' H' p (x1.trans x') (r'.old x1.hh)
theorem reps1 {F:Hp}{d:D}{vs:List V}(h:Reps K F [d] vs):∃v,vs=[v]/\Rep K F d v:=by
 obtain⟨v,r,rfl,h1,h2⟩:=h
 exact⟨v,by rw[show r=[] from h2],h1⟩
theorem reps2 {F:Hp}{d d':D}{vs:List V}(h:Reps K F [d,d'] vs):∃v u,vs=[v,u]/\Rep K F d v/\Rep K F d' u:=by
 obtain⟨v,r,rfl,h1,h2⟩:=h
 obtain⟨u,rfl,h3⟩:=reps1 h2
 exact⟨v,u,rfl,h1,h3⟩
def lenD:List D->(D->Prop)->Prop:=λds P=>match ds with
 | [.lst xs]=>P (.int xs.length)
 | [.tup xs]=>P (.int xs.length)
 |_=>False
def lenS:List D->(D->Prop)->Prop:=λds P=>match ds with
 | [.str x]=>x.length<=1000000/\P (.int x.length)
 |_=>False
theorem cS_len:CbS K (λxs H Q=>∃p ys,xs=[.ref p]/\(SqL K H p ys∨SqT K H p ys)/\Q (.int ys.length) H) lenD:=λF H ds vs P Q s rs w q=>by
 unfold lenD at w
 split at w
 .obtain ⟨v,rfl,p,us,rfl,h1,h2⟩:=reps1 rs
  exact⟨p,us,rfl,.inl h1,by rw[<- h2.length];exact q _ _ F H w (Ext.refl s) rfl⟩
 .obtain ⟨v,rfl,p,us,rfl,h1,h2⟩:=reps1 rs
  exact⟨p,us,rfl,.inr h1,by rw[<- h2.length];exact q _ _ F H w (Ext.refl s) rfl⟩
 .exact w.elim
theorem cS_lenS:CbS K (λxs H Q=>∃z,xs=[.str z]/\z.length<=sizeLine/\Q (.int z.length) H) lenS:=λF H ds vs P Q s rs w q=>by
 unfold lenS at w
 split at w
 .obtain ⟨v,rfl,r⟩:=reps1 rs
  exact⟨_,by rw[show v=_ from r],sz_le w.1,q _ _ F H w.2 (Ext.refl s) rfl⟩
 .exact w.elim
theorem RepN.list {H F' H':Hp}{l:Addr}{ds:List D}{vs:List V}(h0:H l=none)(f0:F' l=none)(h:H' l=some (.lst vs))(r:Reps K F' ds vs):RepN K H F' H' (.nl (ds.map .fz)) (.ref l):=
 ⟨[l],⟨l,vs,[],rfl,rfl,h,RepOs.fzs r⟩,by simp,λa ha=>by
  have e:a=l:=by simpa using ha
  rw[e];exact⟨h0,f0⟩⟩
theorem Ext.grow {F H H':Hp}(s:Same F H)(h:Same H H'):Ext F H F H':=⟨Same.refl _,h,s.trans h,λ_ _ z _ _=>z⟩
def tupD:List D->(OV->Prop)->Prop:=λds P=>match ds with
 | [.lst xs]=>P (.fz (.tup xs))
 |_=>False
theorem cO_tup:CbO K (rTupleS K) tupD:=λF H ds vs P Q s rs w q=>by
 unfold tupD at w
 split at w
 .obtain ⟨v,rfl,p,us,rfl,h1,h2⟩:=reps1 rs
  exact⟨p,us,rfl,s.seq h1,λl H' l0 sm l1=>q _ _ _ H' w (Ext.new s l0 sm l1) (.fz ⟨l,us,rfl,.inl (.inl upd_same),h2.mono (Same.upd' (s.free l0))⟩)⟩
 .exact w.elim
abbrev DPt:=Dst->(Option Int->Prop)->Prop
def SimP (K:Frag)(t:TO)(E:DPt):Prop:=∀F0 H0 F H Y G P Q,EnvR K F0 H0 F H Y G->E G P->(∀o F' H',P o->Ext F H F' H'->Q o H')->t Y H Q
def dNoPt:DPt:=λ_ P=>P none
def dPt (E:DE):DPt:=λG P=>E G λd=>match d with
 | .int i=>P (some i)
 |_=>False
theorem sP_no:SimP K tNoPart dNoPt:=λF0 H0 F H Y G P Q e w q=>q none F H w (Ext.refl e.ext.fh)
theorem sP_pt (h:SimB K t E):SimP K (tPart t) (dPt E):=λF0 H0 F H Y G P Q e w q=>h F0 H0 F H Y G _ _ e w λd v F1 H1 w1 x1 r1=>by
 try dsimp only at w1
 split at w1
 .exact ⟨_,r1,q _ F1 H1 w1 x1⟩
 .exact w1.elim
def cutD (xs:List D)(lo hi:Option Int):List D:=(xs.drop (HT.sIx xs.length 0 lo)).take (HT.sIx xs.length xs.length hi-HT.sIx xs.length 0 lo)
theorem Reps.cut {F:Hp}{ds:List D}{vs:List V}(h:Reps K F ds vs)(lo hi:Option Int):Reps K F (cutD ds lo hi) (cutV vs lo hi):=by
 unfold cutD cutV
 rw[h.length]
 exact (h.drop _).take _
def dSlL (Ea:DE)(L U:DPt):DO:=λG P=>Ea G λx=>L G λlo=>U G λhi=>match x with
 | .lst xs=>P (.nl ((cutD xs lo hi).map .fz))
 |_=>False
theorem sO_slL {tl tu:TO}{L U:DPt}(ha:SimF K ta Ea)(hl:SimP K tl L)(hu:SimP K tu U):SimO K (tSl (rSlS K) ta tl tu) (dSlL Ea L U):=λF0 H0 F H Y G P Q e w q=>
 ha F0 H0 F H Y G _ _ e w λx v F1 H1 w1 x1 r1=>hl F0 H0 F1 H1 Y G _ _ (e.on x1) w1 λlo F2 H2 w2 x2=>hu F0 H0 F2 H2 Y G _ _ ((e.on x1).on x2) w2 λhi F3 H3 w3 x3=>by
  have x13:=x1.trans (x2.trans x3)
  try dsimp only at w3
  split at w3
  .obtain ⟨p,vs,rfl,h1,h2⟩:=r1.mono (x2.ff.trans x3.ff)
   exact⟨p,vs,rfl,x3.fh.seq h1,λl H' l0 sm l1=>q _ _ F3 H' w3 (x13.trans (Ext.grow x3.fh sm)) (RepN.list (x13.hh.free l0) (x3.fh.free l0) l1 (h2.cut lo hi))⟩
  .exact w3.elim
mutual
def OV.lf:OV->Bool
 | .fz d=>d.lf
 | .nl ts=>OV.lfs ts
 | .rt _ ts=>OV.lfs ts
 | .fx _ d=>d.lf
 | .ob _ _ _ ts=>OV.lfs ts
def OV.lfs:List OV->Bool
 | []=>true
 |t::ts=>t.lf && OV.lfs ts
end
theorem OV.lfs_eq:∀(ts:List OV),OV.lfs ts=ts.all OV.lf
 | []=>rfl
 |d::ds=>by simp[OV.lfs,OV.lfs_eq ds]
mutual
theorem RepO.lf {F F' H':Hp}(s:Same F F'):∀{t:OV} {v:V} {A:List Addr},RepO K F' H' t v A->t.lf=true->RepO K (frzT F F') H' t v A
 | .fz d,v,A,h,z=>⟨h.1,Rep.lf s h.2 (by simpa[OV.lf] using z)⟩
 | .nl ts,v,A,h,z=>by
  obtain⟨a,vs,B,e,e2,h1,h2⟩:=h
  exact⟨a,vs,B,e,e2,h1,RepOs.lf s h2 (by simpa[OV.lf] using z)⟩
 | .fx u d,v,A,h,z=>⟨h.1,h.2.1,Rep.lf s h.2.2 (by simpa[OV.lf] using z)⟩
 | .rt a ts,v,A,h,z=>by
  obtain⟨vs,B,e,e2,h1,h2⟩:=h
  exact⟨vs,B,e,e2,h1,RepOs.lf s h2 (by simpa[OV.lf] using z)⟩
 | .ob o c ns ts,v,A,h,z=>by
  obtain⟨a,C,dx,vs,B,e,e2,h0,ho,h1,h2,hl,h3⟩:=h
  exact⟨a,C,dx,vs,B,e,e2,h0,ho,h1,h2,hl,RepOs.lf s h3 (by simpa[OV.lf] using z)⟩
theorem RepOs.lf {F F' H':Hp}(s:Same F F'):∀{ts:List OV} {vs:List V} {A:List Addr},RepOs K F' H' ts vs A->OV.lfs ts=true->RepOs K (frzT F F') H' ts vs A
 | [],_,_,h,_=>h
 |t::ts,vs,A,h,z=>by
  obtain⟨v,r,B,C,e1,e2,h1,h2⟩:=h
  simp[OV.lfs]at z
  exact⟨v,r,B,C,e1,e2,RepO.lf s h1 z.1,RepOs.lf s h2 z.2⟩
end
abbrev DSp:=List D->(OV->Prop)->Prop
def spV (K:Frag)(n:Nat)(sp:DSp):Sp:=spL n λvs H Q=>∃F ds P,Same F H/\Reps K F ds vs/\sp ds P/\∀r v F' H',P r->Ext F H F' H'->RepN K H F' H' r v->Q v H'
def dCall (n:Nat)(sp:DSp)(As:DA):DO:=λG P=>As G λds=>ds.length=n/\sp ds P
def dCallB (n:Nat)(sp:DSp)(As:DA):DO:=λG P=>As G λds=>ds.length=n/\sp ds λr=>r.lf=true/\P r
theorem sO_call {n:Nat}{sp:DSp}(ha:SimAF K a As):SimO K (tCall (spV K n sp) [] E0 a) (dCall n sp As):=λF0 H0 F H Y G P Q e w q=>ha F0 H0 F H Y G _ _ e w λds vs F1 H1 w1 x1 r1=>by
 rw[append_nil]
 exact⟨by rw[<- r1.length];exact w1.1,F1,ds,P,x1.fh,r1,w1.2,λr v F' H' p x' r'=>q r v F' H' p (x1.trans x') (r'.old x1.hh)⟩
theorem sO_callB {n:Nat}{sp:DSp}(ha:SimAB K a As):SimO K (tCall (spV K n sp) [] E0 a) (dCallB n sp As):=λF0 H0 F H Y G P Q e w q=>ha F0 H0 F H Y G _ _ e w λds vs F1 H1 w1 x1 r1=>by
 rw[append_nil]
 refine⟨by rw[<- r1.length];exact w1.1,H1,ds,_,Same.refl _,r1,w1.2,λr v F' H' p x' r'=>?_⟩
 have s1:Same F1 F':=x1.fh.trans x'.ff
 have x2:=frzT_ext s1
 obtain⟨A,a1,a2,a3⟩:=r'
 refine q r v (frzT F1 F') H' p.2 (x1.trans ⟨x2.ff,x'.hh,x2.fh.trans x'.fh,λb o z1 z2 z3=>?_⟩) ⟨A,a1.lf s1 p.1,a2,λb hb=>⟨x1.hh.free (a3 b hb).1,x2.fh.free (a3 b hb).2⟩⟩
 exact x2.no b o z1 (x'.ff _ _ z2) z3
end
section
variable {K:Frag}{te ti ta:TE}{E Ea Ei:DE}{Eo:DO}{t u:TS}{T U:DS}
def sNext:DS:=λDe G=>De.nx G
def sSeq (T U:DS):DS:=λDe G=>T {De with nx:=U De} G
theorem sS_next:SimS K tNext sNext:=λF0 H0 F H Y G De E e l w=>l.nx F H Y G e w
theorem sS_seq (h:SimS K t T)(g:SimS K u U):SimS K (tSeq t u) (sSeq T U):=λF0 H0 F H Y G De E e l w=>
 h F0 H0 F H Y G {De with nx:=U De} _ e ⟨λF1 H1 Y1 G1 e1 w1=>g F0 H0 F1 H1 Y1 G1 De E e1 l w1,l.bk,l.ct,l.rt⟩ w
def sBreak:DS:=λDe G=>De.bk G
theorem sS_break:SimS K tBreak sBreak:=λF0 H0 F H Y G De E e l w=>l.bk F H Y G e w
def sRet (E:DO):DS:=λDe G=>E G De.rt
theorem sS_ret (h:SimO K te Eo):SimS K (tRet te) (sRet Eo):=λF0 H0 F H Y G De En e l w=>h F0 H0 F H Y G _ _ e w λr v F' H' p x n=>l.rt F' H' r v (e.ext.trans x) (n.old e.ext.hh) p
def sRetV (i:Nat):DS:=λDe G=>match G[i]? with
 |some (some (.own t))=>De.rt t
 |_=>False
theorem sS_retV {i:Nat}:SimS K (tRet (tVar i)) (sRetV i):=λF0 H0 F H Y G De En ⟨A,e⟩ l w=>by
 unfold sRetV at w
 split at w
 .rename_i t ht
  obtain⟨v,h1,h2⟩:=e.own i t ht
  exact⟨v,h1,l.rt F H t v e.ext ⟨A i,h2,e.nod i,λa ha=>⟨(e.new i a ha).2.1,(e.new i a ha).1⟩⟩ w⟩
 .exact w.elim
def sIf (C:DT)(T U:DS):DS:=λDe G=>C G λb=>if b=true then T De G else U De G
theorem sS_if {c:TT}{C:DT}(h:SimT K c C)(ht:SimS K t T)(hu:SimS K u U):SimS K (tIfS c t u) (sIf C T U):=λF0 H0 F H Y G De En e l w=>h F0 H0 F H Y G _ _ e w λb F' H' p x=>by
 cases b with
 |true=>exact iteT (ht F0 H0 F' H' Y G De En (e.on x) l p)
 |false=>exact iteB rfl (hu F0 H0 F' H' Y G De En (e.on x) l p)
def sSet (i:Nat)(E:DO):DS:=λDe G=>E G λr=>De.nx (G.set i (some (.own r)))
theorem sS_set {i:Nat}(h:SimO K te Eo):SimS K (tAsg te (gName i)) (sSet i Eo):=λF0 H0 F H Y G De En e l w=>h F0 H0 F H Y G _ _ e w λr v F' H' p x n=>l.nx F' H' _ _ (e.put x i n) p
def gN (i:Nat):D->Dst->(Dst->Prop)->Prop:=λd G P=>P (G.set i (some (.own (.fz d))))
theorem sG_name {i:Nat}:SimG K (gName i) (gN i):=λF0 H0 F H Y G A d v P Q e r w q=>q _ _ _ w (e.putFz i r) λj a ha=>by
 try dsimp only at ha
 split at ha
 .cases ha
 .exact ha
def gsNil:List D->Dst->(Dst->Prop)->Prop:=λds G P=>match ds with
 | []=>P G
 |_=>False
def gsCons (δ:D->Dst->(Dst->Prop)->Prop)(Gs:List D->Dst->(Dst->Prop)->Prop):List D->Dst->(Dst->Prop)->Prop:=λds G P=>match ds with
 |d::r=>δ d G λG'=>Gs r G' P
 |_=>False
theorem sGs_nil:SimGs K gNil gsNil:=λF0 H0 F H Y G A ds vs P Q e r w q=>by
 unfold gsNil at w
 split at w
 .exact ⟨r,q _ _ A w e λ_ _ z=>z⟩
 .exact w.elim
theorem sGs_cons {g:TG}{gs:TGs}{δ:D->Dst->(Dst->Prop)->Prop}{Gs:List D->Dst->(Dst->Prop)->Prop}(h:SimG K g δ)(hs:SimGs K gs Gs):SimGs K (gCons g gs) (gsCons δ Gs):=λF0 H0 F H Y G A ds vs P Q e r w q=>by
 unfold gsCons at w
 split at w
 .obtain ⟨v,r',rfl,h1,h2⟩:=r
  exact⟨v,r',rfl,h F0 H0 F H Y G A _ v _ _ e h1 w λY' G' A' w' e' sb=>hs F0 H0 F H Y' G' A' _ r' P Q e' h2 w' λY2 G2 A2 w2 e2 sb2=>q Y2 G2 A2 w2 e2 λi a z=>sb i a (sb2 i a z)⟩
 .exact w.elim
def gT (n:Nat)(Gs:List D->Dst->(Dst->Prop)->Prop):D->Dst->(Dst->Prop)->Prop:=λd G P=>match d with
 | .tup ds=>ds.length=n/\Gs ds G P
 |_=>False
theorem sG_tup {n:Nat}{gs:TGs}{Gs:List D->Dst->(Dst->Prop)->Prop}(hs:SimGs K gs Gs):SimG K (gTup K n gs) (gT n Gs):=λF0 H0 F H Y G A d v P Q e r w q=>by
 unfold gT at w
 split at w
 .obtain ⟨a,vs,rfl,h1,h2⟩:=r
  exact⟨a,vs,rfl,e.ext.fh.seqT h1,by rw[<- h2.length];exact w.1,hs F0 H0 F H Y G A _ vs P Q e h2 w.2 q⟩
 .exact w.elim
def sAsg (E:DE)(δ:D->Dst->(Dst->Prop)->Prop):DS:=λDe G=>E G λd=>δ d G De.nx
theorem sS_asg {g:TG}{δ:D->Dst->(Dst->Prop)->Prop}(h:SimF K te E)(hg:SimG K g δ):SimS K (tAsg te g) (sAsg E δ):=λF0 H0 F H Y G De En e l w=>h F0 H0 F H Y G _ _ e w λd v F' H' p x r=>
 let⟨A,e⟩:=e
 hg F0 H0 F' H' Y G A d v _ _ (e.on x) r p λY' G' A' w' e' _=>l.nx F' H' Y' G' ⟨A',e'⟩ w'
theorem ER.change {F0 H0 F H H':Hp}{Y:St}{G:Dst}{A:Nat->List Addr}(e:ER K F0 H0 F H Y G A)(i:Nat){t':OV}{v:V}{B:List Addr}(hv:Y[i]?=some (some v))(hr:RepO K F H' t' v B)(hB:B.Nodup)
  (hBn:∀b∈B,F b=none/\H0 b=none) (dj:∀j,j≠i->∀b∈B,b∉A j) (keep:∀b o,b∉A i->H b=some o->H' b=some o):EnvR K F0 H0 F H' Y (G.set i (some (.own t'))):=by
 have hi:i<G.length:=by rw[<- e.len];exact (List.getElem?_eq_some_iff.mp hv).1
 refine⟨λj=>if j=i then B else A j,by simp[e.len],⟨e.ext.ff,λb o h=>?_,λb o h=>?_,e.ext.no⟩,λj t hj=>?_,λj d hj=>?_,λj=>?_,λj k a hjk h1 h2=>?_,λj a ha=>?_⟩
 .exact keep b o (λz=>by rw[(e.new i b z).2.1]at h;cases h) (e.ext.hh _ _ h)
 .exact keep b o (λz=>by rw[(e.new i b z).1]at h;cases h) (e.ext.fh _ _ h)
 .try dsimp only
  by_cases z:j=i
  .subst z
   rw[if_pos rfl]
   rw[getElem?_set_self hi]at hj
   cases hj
   exact⟨v,hv,hr⟩
  .rw [if_neg z]
   rw[getElem?_set_ne (Ne.symm z)]at hj
   obtain⟨u,h1,h2⟩:=e.own j t hj
   exact⟨u,h1,h2.frame (Same.refl _) λa ha xs h=>keep a _ (e.dis j i a z ha) h⟩
 .by_cases z:j=i
  .subst z
   rw[getElem?_set_self hi]at hj
   cases hj
  .rw [getElem?_set_ne (Ne.symm z)]at hj
   exact e.bw j d hj
 .try dsimp only
  split
  .exact hB
  .exact e.nod j
 .try dsimp only at h1 h2
  split at h1
  .split at h2
   .omega
   .rename_i z1 z2
    exact dj k z2 a h1 h2
  .split at h2
   .rename_i z1 z2
    exact dj j z1 a h2 h1
   .exact e.dis j k a hjk h1 h2
 .try dsimp only at ha
  split at ha
  .exact ⟨(hBn a ha).1,(hBn a ha).2,hr.isl a ha⟩
  .rename_i z
   obtain⟨h1,h2,xs,h3,himm⟩:=e.new j a ha
   exact⟨h1,h2,xs,keep a _ (e.dis j i a z ha) h3,himm⟩
def sApp (i:Nat)(E:DO):DS:=λDe G=>match G[i]? with
 |some (some (.own (.nl ts)))=>ts.length<1000000/\E G λr=>De.nx (G.set i (some (.own (.nl (ts++[r])))))
 |_=>False
theorem upd_off {H:Hp}{a b:Addr}{o o':HO}(h:b≠a)(e:H b=some o'):upd H a o b=some o':=by rw[upd_ne h];exact e
theorem sS_app {i:Nat}(h:SimO K te Eo):SimS K (tDrop (tBM K "list" rAppend (tVar i) (tCons te tNil))) (sApp i Eo):=λF0 H0 F H Y G De En e l w=>by
 obtain⟨A,e⟩:=e
 unfold sApp at w
 split at w
 .rename_i ts hs
  obtain⟨pl,w⟩:=w
  obtain⟨v,hv,a,vs,B,rfl,eA,ha,hB⟩:=e.own i _ hs
  refine⟨_,hv,.inl ⟨rfl,_,SqL.of ha⟩,?_⟩
  refine h F0 H0 F H Y G _ _ ⟨A,e⟩ w λr u F1 H1 p x1 n=>?_
  obtain⟨C,c1,c2,c3⟩:=n
  have e1:=e.on x1
  have hl:=hB.length
  refine⟨a,vs,u,rfl,rfl,x1.hh _ _ ha,sz_lt (by omega),?_⟩
  have hB1:RepOs K F1 H1 ts vs B:=hB.frame x1.ff λb _ xs z=>x1.hh _ _ z
  have hnd:=e.nod i
  rw[eA]at hnd
  obtain⟨n1,n2⟩:=nodup_cons.mp hnd
  have hCA:∀j b,b∈C->b∉A j:=λj b hb z=>by
   obtain⟨_,_,xs,q,_⟩:=e.new j b z
   rw[(c3 b hb).1]at q;cases q
  have haC:a∉C:=λz=>hCA i a z (by rw[eA];exact mem_cons_self)
  refine l.nx F1 _ Y _ (e1.change i hv (t':=.nl (ts++[r])) (B:=a::(B++C)) ⟨a,vs++[u],B++C,rfl,rfl,upd_same,?_⟩ ?_ ?_ ?_ ?_) p
  .exact RepOs.append (hB1.frame (Same.refl _) λb hb xs z=>upd_off (λq=>n1 (by rw[<- q];exact hb)) z) (RepOs.one (c1.frame (Same.refl _) λb hb xs z=>upd_off (λq=>haC (by rw[<- q];exact hb)) z))
  .refine nodup_cons.mpr ⟨λz=>?_,nodup_append.mpr ⟨n2,c2,λx hx y hy z=>?_⟩⟩
   .rcases mem_append.mp z with z |z
    .exact n1 z
    .exact haC z
   .subst z
    exact hCA i x hy (by rw[eA];exact mem_cons_of_mem _ hx)
  .intro b hb
   have hb':b∈A i∨b∈C:=by
    rw[eA]
    rcases mem_cons.mp hb with z |z
    .exact .inl (by rw[z];exact mem_cons_self)
    .rcases mem_append.mp z with z |z
     .exact .inl (mem_cons_of_mem _ z)
     .exact .inr z
   rcases hb' with z |z
   .exact ⟨(e1.new i b z).1,(e1.new i b z).2.1⟩
   .exact ⟨(c3 b z).2,e.ext.hh.free (c3 b z).1⟩
  .intro j hj b hb z
   rcases mem_cons.mp hb with q |q
   .subst q;exact e.dis j i b hj z (by rw[eA];exact mem_cons_self)
   .rcases mem_append.mp q with q |q
    .exact e.dis j i b hj z (by rw[eA];exact mem_cons_of_mem _ q)
    .exact hCA j b q z
  .intro b o hb q
   exact upd_off (λz=>hb (by rw[eA,z];exact mem_cons_self)) q
 .exact w.elim
end
section
variable {K:Frag}{te ti ta tl:TE}{E Ea Ei El:DE}{Eo:DO}{t u:TS}{T U:DS}{a:TA}{As:DA}
theorem ER.rebase {F0 H0 F H:Hp}{Y:St}{G:Dst}{A:Nat->List Addr}(e:ER K F0 H0 F H Y G A):ER K F H0 F H Y G A:=⟨e.len,⟨Same.refl _,e.ext.hh,e.ext.fh,λ_ _ z _ _=>z⟩,e.own,e.bw,e.nod,e.dis,e.new⟩
theorem EnvR.rebase {F0 H0 F H:Hp}{Y:St}{G:Dst}(e:EnvR K F0 H0 F H Y G):EnvR K F H0 F H Y G:=let⟨A,e⟩:=e;⟨A,e.rebase⟩
theorem Ext.unbase {F0 H0 F1 H1 F H:Hp}(x:Ext F0 H0 F1 H1)(y:Ext F1 H0 F H):Ext F0 H0 F H:=⟨x.ff.trans y.ff,y.hh,y.fh,λa o z1 z2 z3=>y.no a o (x.no a o z1 z2 z3) z2 z3⟩
theorem EnvR.unbase {F0 H0 F1 H1 F H:Hp}{Y:St}{G:Dst}(x:Ext F0 H0 F1 H1)(e:EnvR K F1 H0 F H Y G):EnvR K F0 H0 F H Y G:=let⟨A,e⟩:=e;⟨A,e.len,x.unbase e.ext,e.own,e.bw,e.nod,e.dis,e.new⟩
def ItR (K:Frag)(F:Hp)(J:It)(ds:List D):Prop:=∀F1 H1,Same F F1->Same F1 H1->(∀i,i<ds.length->J.go i H1)/\J.stop ds.length H1/\∀i x H2,i<ds.length->J.yld i H1 x H2->∃d F2,ds[i]?=some d/\Ext F1 H1 F2 H2/\Rep K F2 d x
def SimI (K:Frag)(wi:TI)(I:DA):Prop:=∀F0 H0 F H Y G P R,EnvR K F0 H0 F H Y G->I G P->(∀ds J F' H',P ds->Ext F H F' H'->ItR K F' J ds->R J H')->wi Y H R
def ForW (δ:D->Dst->(Dst->Prop)->Prop)(T:DS)(De:DEnds)(ds:List D)(G:Dst):Prop:=∃W:Nat->Dst->Prop,W 0 G/\
 (∀i d G,ds[i]?=some d->W i G->δ d G λG'=>T {nx:=W (i+1),ct:=W (i+1),bk:=De.nx,rt:=De.rt} G')/\∀G,W ds.length G->De.nx G
def sFor (I:DA)(δ:D->Dst->(Dst->Prop)->Prop)(T:DS):DS:=λDe G=>I G λds=>ForW δ T De ds G
theorem sS_for {wi:TI}{I:DA}{g:TG}{δ:D->Dst->(Dst->Prop)->Prop}(hi:SimI K wi I)(hg:SimG K g δ)(ht:SimS K t T):SimS K (tFor wi g t) (sFor I δ T):=λF0 H0 F H Y G De En e l w=>
 hi F0 H0 F H Y G _ _ e w λds J F1 H1 p x1 hJ=>by
  have b1:=(e.on x1).ext
  obtain⟨W,w0,ws,wd⟩:=p
  refine⟨λi m Y H=>m=ds.length-i/\i<=ds.length/\∃F G,EnvR K F1 H0 F H Y G/\W i G,⟨ds.length,by simp,zero_le _,F1,G,(e.on x1).rebase,w0⟩,?_⟩
  rintro i m Y2 H2 ⟨rfl,hil,F2,G2,⟨A2,e2⟩,w2⟩
  obtain⟨j1,j2,j3⟩:=hJ F2 H2 e2.ext.ff e2.ext.fh
  by_cases hlt:i<ds.length
  .refine .inr ⟨j1 i hlt,λY' H'=>∃F G,EnvR K F1 H0 F H' Y' G/\W (i+1) G,λY' H' ⟨F3,G3,e3,w3⟩=>⟨ds.length-(i+1),by omega,rfl,hlt,F3,G3,e3,w3⟩,λx H3 y=>?_⟩
   obtain⟨d,F3,hd,x3,r3⟩:=j3 i x H3 hlt y
   refine hg F1 H0 F3 H3 Y2 G2 A2 d x _ _ (e2.on x3) r3 (ws i d G2 hd w2) λY4 G4 A4 w4 e4 _=>?_
   exact ht F1 H0 F3 H3 Y4 G4 {nx:=W (i+1),ct:=W (i+1),bk:=De.nx,rt:=De.rt} _ ⟨A4,e4⟩ ⟨λF5 H5 Y5 G5 e5 w5=>⟨F5,G5,e5,w5⟩,λF5 H5 Y5 G5 e5 w5=>l.nx F5 H5 Y5 G5 (e5.unbase b1) w5,λF5 H5 Y5 G5 e5 w5=>⟨F5,G5,e5,w5⟩,λF5 H5 r v x5 n5 w5=>l.rt F5 H5 r v (b1.unbase x5) n5 w5⟩ w4
  .have hi':i=ds.length:=by omega
   subst hi'
   exact .inl ⟨j2,l.nx F2 H2 Y2 G2 (EnvR.unbase b1 ⟨A2,e2⟩) (wd _ w2)⟩
def dItL (El:DE):DA:=λG P=>El G λd=>match d with
 | .lst ds=>P ds
 |_=>False
def dItT (El:DE):DA:=λG P=>El G λd=>match d with
 | .tup ds=>P ds
 |_=>False
theorem sI_list (h:SimF K tl El):SimI K (iList K tl) (dItL El):=λF0 H0 F H Y G P R e w q=>h F0 H0 F H Y G _ _ e w λd v F' H' p x r=>by
 try dsimp only at p
 split at p
 .obtain ⟨a,vs,rfl,h1,h2⟩:=r
  refine⟨a,rfl,⟨vs,x.fh.seq h1⟩,q _ _ F' H' p x λF1 H1 s1 s2=>?_⟩
  have hl:=h2.length
  have hq:=(s1.trans s2).seq h1
  refine⟨λi hi=>⟨vs,vs[i],hq,getElem?_eq_getElem (by omega)⟩,⟨vs,hq,by omega⟩,λi x H2 hi y=>?_⟩
  obtain⟨rfl,y⟩:=y
  obtain⟨d,hd,rd⟩:=h2.get' (y vs hq)
  exact⟨d,F1,hd,Ext.refl s2,rd.mono s1⟩
 .exact p.elim
theorem sI_tup (h:SimF K tl El):SimI K (iTup K tl) (dItT El):=λF0 H0 F H Y G P R e w q=>h F0 H0 F H Y G _ _ e w λd v F' H' p x r=>by
 try dsimp only at p
 split at p
 .obtain ⟨a,vs,rfl,h1,h2⟩:=r
  refine⟨a,rfl,⟨vs,x.fh.seqT h1⟩,q _ _ F' H' p x λF1 H1 s1 s2=>?_⟩
  have hl:=h2.length
  have hq:=(s1.trans s2).seqT h1
  refine⟨λi hi=>⟨vs,vs[i],hq,getElem?_eq_getElem (by omega)⟩,⟨vs,hq,by omega⟩,λi x H2 hi y=>?_⟩
  obtain⟨rfl,y⟩:=y
  obtain⟨d,hd,rd⟩:=h2.get' (y vs hq)
  exact⟨d,F1,hd,Ext.refl s2,rd.mono s1⟩
 .exact p.elim
def rng (lo c:Int)(n:Nat):List D:=(List.range n).map λ(i:Nat)=>D.int (lo+i*c)
theorem rng_len {lo c:Int}{n:Nat}:(rng lo c n).length=n:=by simp[rng]
theorem rng_get {lo c:Int}{n i:Nat}(h:i<n):(rng lo c n)[i]?=some (.int (lo+i*c)):=by simp[rng,h]
theorem rng_inv {lo c:Int}{n i:Nat}{d:D}(h:(rng lo c n)[i]?=some d):i<n/\d = .int (lo+i*c):=by
 have hi:i<n:=by
  have:=(List.getElem?_eq_some_iff.mp h).1
  rwa[rng_len]at this
 rw[rng_get hi]at h
 exact⟨hi,(Option.some.inj h).symm⟩
theorem itR_itr {F:Hp}{lo:Int}{n:Nat}:ItR K F (Itr lo n) (rng lo 1 n):=λF1 H1 s1 s2=>by
 rw[rng_len]
 refine⟨λi hi=>hi,Nat.le_refl _,λi x H2 hi y=>?_⟩
 obtain⟨rfl,rfl⟩:=y
 exact⟨_,F1,rng_get hi,Ext.refl s2,by rw[Int.mul_one];rfl⟩
def dRng1 (As:DA):DA:=λG P=>As G λds=>match ds with
 | [.int j]=>(-(2^62)<=j/\j<2^62)/\P (rng 0 1 j.toNat)
 |_=>False
theorem sI_rng1 (h:SimAB K a As):SimI K (iRng1 a) (dRng1 As):=λF0 H0 F H Y G P R e w q=>h F0 H0 F H Y G _ _ e w λds vs F' H' p x r=>by
 try dsimp only at p
 split at p
 .obtain ⟨v,rfl,r1⟩:=reps1 r
  exact⟨_,by rw[show v=_ from r1],p.1.1,p.1.2,q _ _ F' H' p.2 x itR_itr⟩
 .exact p.elim
def blkD (ix:List (Option Nat))(G:Dst):Dst:=ix.map λo=>match o with
 |none=>none
 |some i=>match G[i]? with
  |some (some (.own (.fz d)))=>some (.own (.fz d))
  |some (some (.own (.fx _ d)))=>some (.own (.fz d))
  |some (some (.own t))=>some (.bw t.val)
  |some (some (.bw d))=>some (.bw d)
  |_=>none
def CmpW (δ:D->Dst->(Dst->Prop)->Prop)(Eo:DO)(ds:List D)(G:Dst)(P:OV->Prop):Prop:=∃W:Nat->Dst->List OV->Prop,W 0 G []/\
 (∀i d G ts,ds[i]?=some d->W i G ts->ts.length<1000000/\δ d G λG'=>Eo G' λr=>W (i+1) G' (ts++[r]))/\∀G ts,W ds.length G ts->P (.nl ts)
def dComp (I:DA)(ix:List (Option Nat))(δ:D->Dst->(Dst->Prop)->Prop)(Eo:DO):DO:=λG P=>I G λds=>CmpW δ Eo ds (blkD ix G) P
theorem ER.blk {F0 H0 F H H':Hp}{Y:St}{G:Dst}{A:Nat->List Addr}(e:ER K F0 H0 F H Y G A)(ix:List (Option Nat))(s:Same H H'):ER K F H F H' (blkσ ix Y) (blkD ix G) (λ_=>[]):=by
 have get:∀(j:Nat) (s:Sl),(blkD ix G)[j]?=some (some s)->∃(i:Nat) (v:V),(blkσ ix Y)[j]?=some (some v)/\Y[i]?=some (some v)/\((∃d,s = .own (.fz d)/\Rep K F d v)∨∃d,s = .bw d/\Rep K H d v):=by
  intro j s hj
  unfold blkD at hj
  rw[getElem?_map]at hj
  cases q:ix[j]? with
  |none=>rw[q]at hj;cases hj
  |some o=>
   rw[q]at hj
   cases o with
   |none=>cases hj
   |some i=>
    have fin:∀v,Y[i]?=some (some v)->(blkσ ix Y)[j]?=some (some v):=λv hv=>by
     unfold blkσ
     rw[getElem?_map,q]
     simp[hv]
    have hj':=Option.some.inj hj
    dsimp only at hj'
    split at hj'
    .rename_i d hd
     cases hj'
     obtain⟨v,h1,h2⟩:=e.own i _ hd
     exact⟨i,v,fin v h1,h1,.inl ⟨d,rfl,h2.2⟩⟩
    .rename_i u d hd
     cases hj'
     obtain⟨v,h1,h2⟩:=e.own i _ hd
     exact⟨i,v,fin v h1,h1,.inl ⟨d,rfl,h2.2.2⟩⟩
    .rename_i t _ _ hd
     cases hj'
     obtain⟨v,h1,h2⟩:=e.own i _ hd
     exact⟨i,v,fin v h1,h1,.inr ⟨_,rfl,h2.rep e.ext.fh λa _ xs z=>z⟩⟩
    .rename_i d hd
     cases hj'
     obtain⟨v,h1,h2⟩:=e.bw i _ hd
     exact⟨i,v,fin v h1,h1,.inr ⟨_,rfl,h2.mono e.ext.hh⟩⟩
    .cases hj'
 refine⟨by simp[blkσ,blkD],Ext.grow e.ext.fh s,λj t hj=>?_,λj d hj=>?_,λ_=>nodup_nil,(λ_ _ _ _ h=>by cases h),(λ_ _ h=>by cases h)⟩
 .obtain ⟨i,v,h1,h2,h3⟩:=get j _ hj
  rcases h3 with⟨d,h3,h4⟩ | ⟨d,h3,_⟩
  .cases h3;exact⟨v,h1,rfl,h4⟩
  .cases h3
 .obtain ⟨i,v,h1,h2,h3⟩:=get j _ hj
  rcases h3 with⟨d',h3,h4⟩ | ⟨d',h3,h4⟩
  .cases h3
  .cases h3;exact⟨v,h1,h4⟩
theorem sO_comp {wi:TI}{I:DA}{g:TG}{δ:D->Dst->(Dst->Prop)->Prop}{ix:List (Option Nat)}(hi:SimI K wi I)(hg:SimG K g δ)(he:SimO K te Eo):SimO K (tComp wi ix g te) (dComp I ix δ Eo):=λF0 H0 F H Y G P Q e w q=>
 hi F0 H0 F H Y G _ _ e w λds J F1 H1 p x1 hJ=>by
  intro L hL
  obtain⟨A,e⟩:=e.on x1
  obtain⟨W,w0,ws,wd⟩:=p
  have f1:Same F1 H1:=x1.fh
  refine⟨λi m Y ys H=>m=ds.length-i/\i<=ds.length/\∃F G ts B,ER K F1 H1 F H Y G (λ_=>[])/\W i G ts/\F L=none/\H L=some (.lst ys)/\RepOs K F H ts ys B/\(L::B).Nodup/\∀b∈B,H1 b=none/\F b=none,
   ⟨ds.length,by simp,zero_le _,F1,_,[],[],e.blk ix (Same.new hL),w0,f1.free hL,upd_same,⟨rfl,rfl⟩,by simp,λ_ h=>by cases h⟩,?_⟩
  rintro i m Y2 ys H2 ⟨rfl,hil,F2,G2,ts,B,e2,w2,l1,l2,hr,nd,nw⟩
  obtain⟨j1,j2,j3⟩:=hJ F2 H2 e2.ext.ff e2.ext.fh
  by_cases hlt:i<ds.length
  .obtain ⟨d0,hd0⟩:∃d,ds[i]?=some d:=⟨_,getElem?_eq_getElem hlt⟩
   have hl:=hr.length
   refine .inr ⟨sz_lt (by have:=(ws i d0 G2 ts hd0 w2).1;omega),j1 i hlt,λx H3 y=>?_⟩
   obtain⟨d,F3,hd,x3,r3⟩:=j3 i x H3 hlt y
   refine hg F1 H1 F3 H3 Y2 G2 (λ_=>[]) d x _ _ (e2.on x3) r3 (ws i d G2 ts hd w2).2 λY4 G4 A4 w4 e4 sub=>?_
   have e4':ER K F1 H1 F3 H3 Y4 G4 (λ_=>[]):=by
    have:A4=λ_=>[]:=funext λk=>List.eq_nil_iff_forall_not_mem.mpr λb hb=>by cases sub k b hb
    rw[this]at e4;exact e4
   refine he F1 H1 F3 H3 Y4 G4 _ _ ⟨_,e4'⟩ w4 λr v F5 H5 p5 x5 n5=>?_
   have x25:=x3.trans x5
   have l5:=x25.hh _ _ l2
   have l5f:=x25.no L _ l1 l2 rfl
   refine⟨l5,ds.length-(i+1),by omega,rfl,hlt,F5,G4,ts++[r],?_⟩
   obtain⟨C,c1,c2,c3⟩:=n5
   obtain⟨n1,n2⟩:=nodup_cons.mp nd
   have hLC:L∉C:=λz=>by
    have q:=(c3 L z).1
    rw[x3.hh _ _ l2]at q;cases q
   have hBC:∀b,b∈B->b∉C:=λb hb z=>by
    obtain⟨xs,q,himm⟩:=hr.isl b hb
    have:=(c3 b z).1
    rw[x3.hh _ _ q]at this;cases this
   have e5:=e4'.on x5
   refine⟨B++C,⟨e5.len,⟨e5.ext.ff,λb o h=>?_,λb o h=>?_,e5.ext.no⟩,λj t hj=>?_,e5.bw,e5.nod,e5.dis,λ_ _ h=>by cases h⟩,p5,l5f,upd_same,?_,?_,λb hb=>?_⟩
   .exact upd_off (λz=>by rw[z,hL]at h;cases h) (e5.ext.hh _ _ h)
   .exact upd_off (λz=>by rw[z,l5f]at h;cases h) (e5.ext.fh _ _ h)
   .obtain ⟨u,h1,h2⟩:=e5.own j t hj
    exact⟨u,h1,h2.frame (Same.refl _) λ_ z=>by cases z⟩
   .exact RepOs.append (hr.frame x25.ff λb hb xs z=>upd_off (λq=>n1 (by rw[<- q];exact hb)) (x25.hh _ _ z)) (RepOs.one (c1.frame (Same.refl _) λb hb xs z=>upd_off (λq=>hLC (by rw[<- q];exact hb)) z))
   .refine nodup_cons.mpr ⟨λz=>?_,nodup_append.mpr ⟨n2,c2,λx hx y hy z=>by subst z;exact hBC x hx hy⟩⟩
    rcases mem_append.mp z with z |z
    .exact n1 z
    .exact hLC z
   .rcases mem_append.mp hb with z |z
    .obtain ⟨xs,qq,himm⟩:=hr.isl b z
     exact⟨(nw b z).1,x25.no b _ (nw b z).2 qq himm⟩
    .exact ⟨(e2.ext.hh.trans x3.hh).free (c3 b z).1,(c3 b z).2⟩
  .have hi':i=ds.length:=by omega
   subst hi'
   refine .inl ⟨j2,q _ _ F2 H2 (wd _ _ w2) (x1.trans e2.ext) ⟨L::B,⟨L,ys,B,rfl,rfl,l2,hr⟩,nd,λb hb=>?_⟩⟩
   rcases mem_cons.mp hb with rfl |z
   .exact ⟨x1.hh.free hL,l1⟩
   .exact ⟨x1.hh.free (nw b z).1,(nw b z).2⟩
def startV (N:List Str)(ds:List D):Dst:=ds.map (λd=>some (.own (.fz d)))++List.replicate (N.length-ds.length) none
theorem startV_er {H F:Hp}{N:List Str}{ds:List D}{vs:List V}(s:Same F H)(h:Reps K F ds vs):ER K F H F H (start N vs) (startV N ds) (λ_=>[]):=by
 have hl:=h.length
 refine⟨by simp[start,startV,hl],Ext.refl s,λi t hi=>?_,λi d hi=>?_,λ_=>nodup_nil,(λ_ _ _ _ h=>by cases h),(λ_ _ h=>by cases h)⟩
 .unfold startV at hi
  by_cases z:i<ds.length
  .rw [getElem?_append_left (by simpa using z),getElem?_map,getElem?_eq_getElem z]at hi
   simp at hi
   subst hi
   obtain⟨v,h1,h2⟩:=h.get (getElem?_eq_getElem z)
   refine⟨v,?_,rfl,h2⟩
   unfold start
   rw[getElem?_append_left (by simp;omega),getElem?_map,h1]
   rfl
  .rw [getElem?_append_right (by simpa using z)]at hi
   have:=mem_of_getElem? hi
   rw[mem_replicate]at this
   cases this.2
 .unfold startV at hi
  by_cases z:i<ds.length
  .rw [getElem?_append_left (by simpa using z),getElem?_map,getElem?_eq_getElem z]at hi
   simp at hi
  .rw [getElem?_append_right (by simpa using z)]at hi
   have:=mem_of_getElem? hi
   rw[mem_replicate]at this
   cases this.2
end
theorem CalV.of {P:Program}{w:World}{K:Frag}{mg:Str->Option Value}{base:Heap}{x:Str}{st:Stmt}{f:Addr}{fd:FuncData}{N ps:List Str}{k n:Nat}{sp:DSp}(Df:DefAt K mg x st f fd)(S:FnScope N ps (defScope st))
  (hb:∀(kV doc pm:Value) (an:Option Addr) (cdv ct:Value) (us:List Value),us.length=ps.length->bindArgs (fnOf x x (defArgs st) (defBody st) (defScope st) .none kV doc pm an cdv ct) ⟨us,[]⟩=pure (ps.zip us)) (hn:n=ps.length)
  (hbody:∀(cdv:Value) (A:Around) (outer:List Env) (s:Shared) (H:Hp) (E:XK),Room k (A.deeper (envOfC x (defScope st) s.heap.objs.size f cdv))->
   ∃t T,PSs (cxOf CX0 P w K mg base N x (defScope st) f cdv A outer s H E).nox (defBody st) t/\SimS K t T/\∀ds Pr,sp ds Pr->T {nx:=λ_=>Pr (.fz .non),rt:=Pr} (startV N ds)):Cal P w K mg base x (k+1) ps (spV K n sp):=
 Cal.of Df S hb (λvs H Q E h=>by rw[<- hn];exact h.1) λcdv A outer s H vs Q E hr h=>by
  obtain⟨_,F,ds,Pr,hs,hr',hsp,hq⟩:=h
  obtain⟨t,T,h1,h2,h3⟩:=hbody cdv A outer s H E hr
  refine⟨t,h1,h2 F H F H (start N vs) (startV N ds) {nx:=λ_=>Pr (.fz .non),rt:=Pr} _ ⟨_,startV_er hs hr'⟩ ⟨λF' H' Y G e p=>?_,λ_ _ _ _ _ z=>z.elim,λ_ _ _ _ _ z=>z.elim,λF' H' r v x n p=>hq r v F' H' p x n⟩ (h3 ds Pr hsp)⟩
  exact hq _ _ F' H' p e.ext (.fz rfl)
section
variable {X:Cx}{K:Frag}
def D.tyN:D->String
 | .int _ => "int"
 | .bl _ => "bool"
 | .non => "NoneType"
 | .str _ => "str"
 | .ty _ => "type"
 | .fn _ => "function"
 | .tup _ => "tuple"
 | .lst _ => "list"
 | .dic => "dict"
 | .exc _ => "exception"
 | .obj _ _ _ => "object"
def rIsID (K:Frag):List V->Hp->VK->Prop:=λxs H Q=>∃d v n b,xs=[v,.ty n]/\Rep K H d v/\((∀m,d≠.ty m)/\(∀x,d≠.fn x)/\(∀x,d≠.exc x)/\∀c ns ds,d≠.obj c ns ds)/\kitOne K (.type d.tyN) (.type n)=some b/\Q (.bl b) H
theorem call_isiD:CallR X (.builtin "isinstance") (rIsID X.K):=by
 intro pins s Y H xs us Q I r h
 obtain⟨d,x,n,b,rfl,rp,⟨hty,hfn,hex,hany⟩,e,q⟩:=h
 obtain⟨u,w',rfl,r1,r2⟩:=vals2 r
 cases r2
 have fin:∀tk,EP X pins Y Q (.bool b) {s with toks:=tk}:=λtk=>⟨.bl b,H,I.tok tk,rfl,q⟩
 cases d with
 |int i=>cases rp;exact isinst_ok I r1 (TyOf.int i) e fin
 |bl i=>cases rp;exact isinst_ok I r1 (TyOf.bl i) e fin
 |non=>cases rp;exact isinst_ok I r1 TyOf.non e fin
 |str i=>cases rp;exact isinst_ok I r1 (TyOf.str i) e fin
 |ty i=>exact absurd rfl (hty i)
 |fn i=>exact absurd rfl (hfn i)
 |tup ds=>
  obtain⟨a,vs,rfl,h1,h2⟩:=rp
  cases (show u=Value.ref a from r1)
  obtain⟨its,rv,p,hz⟩:=I.tuple h1
  obtain⟨o,q1,q2,_⟩:=p
  exact kia_one kitx_tuple I.kIn ⟨o,q1,q2⟩ e (λz=>nomatch z) fin
 |lst ds=>
  obtain⟨a,vs,rfl,h1,h2⟩:=rp
  cases (show u=Value.ref a from r1)
  obtain⟨its,rv,p,hz⟩:=I.list h1
  obtain⟨o,q1,q2,_⟩:=p.isList
  exact kia_one kitx_list I.kIn ⟨o,q1,q2⟩ e (λz=>nomatch z) fin
 |dic=>
  obtain⟨a,rfl,h1⟩:=rp
  cases (show u=Value.ref a from r1)
  obtain⟨⟨o,q1,q2⟩,_,_⟩:=I.hok a _ h1
  exact kia_one kitx_dict I.kIn ⟨o,q1,q2⟩ e (λz=>nomatch z) fin
 |exc c=>exact absurd rfl (hex c)
 |obj c ns ds=>exact absurd rfl (hany c ns ds)
def kitB (d:D)(n:String):Bool:=match d with
 | .int _=>n == "int"
 | .bl _=>n == "bool" ||n == "int"
 | .str _=>n == "str"
 | .tup _=>n == "tuple"
 | .lst _=>n == "list"
 |_=>false
def kitNs:List String:=["int","bool","str","tuple","list"]
structure KitV (K:Frag):Prop where
 all:∀d:D,((∀m,d≠.ty m)/\(∀x,d≠.fn x)/\(∀x,d≠.exc x)/\∀c ns ds,d≠.obj c ns ds)->∀n∈kitNs,kitOne K (.type d.tyN) (.type n)=some (kitB d n)
def isiD:List D->(D->Prop)->Prop:=λds P=>match ds with
 | [.ty _,.ty _]=>False
 | [.fn _,.ty _]=>False
 | [.exc _,.ty _]=>False
 | [.obj _ _ _,.ty _]=>False
 | [d,.ty n]=>n∈kitNs/\P (.bl (kitB d n))
 |_=>False
theorem cS_isi (KT:KitV K):CbS K (rIsID K) isiD:=λF H ds vs P Q s rs w q=>by
 unfold isiD at w
 split at w
 .exact w.elim
 .exact w.elim
 .exact w.elim
 .exact w.elim
 .rename_i d n h1 h0 h2 h3
  obtain⟨v,u,rfl,r1,r2⟩:=reps2 rs
  have ht:∀m,d≠.ty m:=λm z=>h1 m z
  have hf:∀m,d≠.fn m:=λm z=>h0 m z
  have hx:∀m,d≠.exc m:=λm z=>h2 m z
  have hy:∀c ns ds,d≠.obj c ns ds:=λc ns ds z=>h3 c ns ds z
  exact⟨d,v,n,_,by rw[show u=_ from r2],r1,⟨ht,hf,hx,hy⟩,KT.all d ⟨ht,hf,hx,hy⟩ n w.1,q _ _ F H w.2 (Ext.refl s) rfl⟩
 .exact w.elim
theorem atI_c0 {α:Type}{a:α}{xs:List α}:atI (a::xs) 0=some a:=atI_nat (j:=0) rfl
theorem atI_c1 {α:Type}{a b:α}{xs:List α}:atI (a::b::xs) 1=some b:=atI_nat (j:=1) rfl
theorem atI_c2 {α:Type}{a b c:α}{xs:List α}:atI (a::b::c::xs) 2=some c:=atI_nat (j:=2) rfl
theorem atI_c3 {α:Type}{a b c d:α}{xs:List α}:atI (a::b::c::d::xs) 3=some d:=atI_nat (j:=3) rfl
theorem atI_c4 {α:Type}{a b c d e:α}{xs:List α}:atI (a::b::c::d::e::xs) 4=some e:=atI_nat (j:=4) rfl
theorem atI_ints {xs:List Int}{i:Int}(h0:0<=i)(h:i<xs.length):atI (xs.map D.int) i=some (.int (xs.getD i.toNat 0)):=by
 have hi:i.toNat<xs.length:=by omega
 have e:=atI_nat (xs:=xs.map D.int) (j:=i.toNat) (v:=.int (xs.getD i.toNat 0)) (by simp[hi])
 rwa[show ((i.toNat:Nat):Int)=i by omega]at e
theorem fzs_val {ds:List D}:OV.vals (ds.map OV.fz)=ds:=by
 rw[OV.vals_eq,map_map]
 simp[Function.comp_def,OV.val]
theorem mget {α β:Type}{xs:List α}{f:α->β}{i:Nat}{d:β}(h:(xs.map f)[i]?=some d):∃x,xs[i]?=some x/\d=f x:=by
 rw[getElem?_map]at h
 cases q:xs[i]? with
 |none=>rw[q]at h;cases h
 |some x=>rw[q]at h;exact⟨x,rfl,(Option.some.inj h).symm⟩
theorem val_fzI {xs:List Int}:List.map OV.val (xs.map λx=>OV.fz (D.int x))=xs.map D.int:=by
 rw[map_map];rfl
theorem app_fzI {xs:List Int}{v:Int}:(xs.map λx=>OV.fz (D.int x))++[.fz (.int v)]=(xs++[v]).map λx=>OV.fz (D.int x):=by
 rw[map_append];rfl
theorem lfs_fzI {xs:List Int}:OV.lfs (xs.map λx=>OV.fz (D.int x))=true:=by
 rw[OV.lfs_eq];simp[OV.lf,D.lf]
theorem fz_int {xs:List Int}:(xs.map D.int).map OV.fz=xs.map λx=>OV.fz (D.int x):=by
 rw[map_map];rfl
theorem kn_int:("int"∈kitNs)=True:=eq_true (by decide)
theorem kn_bool:("bool"∈kitNs)=True:=eq_true (by decide)
theorem kn_tuple:("tuple"∈kitNs)=True:=eq_true (by decide)
theorem CmpW.map {α:Type}{Eo:DO}{o:Option Sl}{rest:Dst}{P:OV->Prop}(xs:List α)(g:α->D)(f:α->OV)(hn:xs.length<=1000000)
  (h:∀x∈xs,∀Q:OV->Prop,Q (f x)->Eo (some (.own (.fz (g x)))::rest) Q) (k:P (.nl (xs.map f))):CmpW (gN 0) Eo (xs.map g) (o::rest) P:=by
 refine⟨λi G ts=>∃o,G=o::rest/\ts=(xs.take i).map f,⟨o,rfl,by simp⟩,?_,?_⟩
 .rintro i d G ts hd ⟨o,rfl,rfl⟩
  obtain⟨x,hx,rfl⟩:=mget hd
  obtain⟨hi,e⟩:=List.getElem?_eq_some_iff.mp hx
  refine⟨by rw[length_map,length_take];omega,h x (mem_of_getElem? hx) _ ⟨_,rfl,?_⟩⟩
  rw[List.take_succ_eq_append_getElem hi,e,map_append]
  rfl
 .rintro G ts ⟨o,rfl,rfl⟩
  rw[length_map,take_length]
  exact k
theorem sSeq_k {T U:DS}{De:DEnds}{G:Dst}(h:∀N:Dst->Prop,(∀G',U De G'->N G')->T {De with nx:=N} G):sSeq T U De G:=h _ λ_ z=>z
theorem KitV.of (t1:kitOne K (.type "int") (.type "int")=some true)(t2:kitOne K (.type "int") (.type "bool")=some false)(t3:kitOne K (.type "int") (.type "str")=some false)(t4:kitOne K (.type "int") (.type "tuple")=some false)(t5:kitOne K (.type "int") (.type "list")=some false)(t6:kitOne K (.type "bool") (.type "int")=some true)(t7:kitOne K (.type "bool") (.type "bool")=some true)(t8:kitOne K (.type "bool") (.type "str")=some false)(t9:kitOne K (.type "bool") (.type "tuple")=some false)(t10:kitOne K (.type "bool") (.type "list")=some false)(t11:kitOne K (.type "NoneType") (.type "int")=some false)(t12:kitOne K (.type "NoneType") (.type "bool")=some false)(t13:kitOne K (.type "NoneType") (.type "str")=some false)(t14:kitOne K (.type "NoneType") (.type "tuple")=some false)(t15:kitOne K (.type "NoneType") (.type "list")=some false)(t16:kitOne K (.type "str") (.type "int")=some false)(t17:kitOne K (.type "str") (.type "bool")=some false)(t18:kitOne K (.type "str") (.type "str")=some true)(t19:kitOne K (.type "str") (.type "tuple")=some false)(t20:kitOne K (.type "str") (.type "list")=some false)(t21:kitOne K (.type "tuple") (.type "int")=some false)(t22:kitOne K (.type "tuple") (.type "bool")=some false)(t23:kitOne K (.type "tuple") (.type "str")=some false)(t24:kitOne K (.type "tuple") (.type "tuple")=some true)(t25:kitOne K (.type "tuple") (.type "list")=some false)(t26:kitOne K (.type "list") (.type "int")=some false)(t27:kitOne K (.type "list") (.type "bool")=some false)(t28:kitOne K (.type "list") (.type "str")=some false)(t29:kitOne K (.type "list") (.type "tuple")=some false)(t30:kitOne K (.type "list") (.type "list")=some true)(t31:kitOne K (.type "dict") (.type "int")=some false)(t32:kitOne K (.type "dict") (.type "bool")=some false)(t33:kitOne K (.type "dict") (.type "str")=some false)(t34:kitOne K (.type "dict") (.type "tuple")=some false)(t35:kitOne K (.type "dict") (.type "list")=some false):KitV K:=by
 refine⟨λd ⟨hd,hd2,hd3⟩ n hn=>?_⟩
 simp only[kitNs,mem_cons,List.mem_nil_iff,or_false]at hn
 cases d with
 |ty m=>exact absurd rfl (hd m)
 |fn m=>exact absurd rfl (hd2 m)
 |int _=>
  rcases hn with rfl |rfl |rfl |rfl |rfl
  .exact t1
  .exact t2
  .exact t3
  .exact t4
  .exact t5
 |bl _=>
  rcases hn with rfl |rfl |rfl |rfl |rfl
  .exact t6
  .exact t7
  .exact t8
  .exact t9
  .exact t10
 |non=>
  rcases hn with rfl |rfl |rfl |rfl |rfl
  .exact t11
  .exact t12
  .exact t13
  .exact t14
  .exact t15
 |str _=>
  rcases hn with rfl |rfl |rfl |rfl |rfl
  .exact t16
  .exact t17
  .exact t18
  .exact t19
  .exact t20
 |tup _=>
  rcases hn with rfl |rfl |rfl |rfl |rfl
  .exact t21
  .exact t22
  .exact t23
  .exact t24
  .exact t25
 |lst _=>
  rcases hn with rfl |rfl |rfl |rfl |rfl
  .exact t26
  .exact t27
  .exact t28
  .exact t29
  .exact t30
 |dic=>
  rcases hn with rfl |rfl |rfl |rfl |rfl
  .exact t31
  .exact t32
  .exact t33
  .exact t34
  .exact t35
 |exc m=>exact absurd rfl (hd3.1 m)
 |obj c ns ds=>exact absurd rfl (hd3.2 c ns ds)
end
end L2
namespace PySem
open AutoSeq1
abbrev lwSeq (T:String)(od:Option Addr)(xs:Array Value)(k:Nat)(sl:Array (Option Value)):Obj:={cls:=.type T,dict:=od,data:=.seq xs k,slots:=sl}
theorem lw_extend_list (l b:Addr)(xs ys:Array Value)(k m:Nat)(od:Option Addr)(sl:Array (Option Value))(h0:¬(!xs.isEmpty && Builtin.List.listTooLong (xs.size+ys.size))=true)(h1:xs.size<=sizeLine)(h2:xs.size+ys.size<=sizeLine+1):
  Meets (Builtin.«list.extend» ⟨[.ref l,.ref b],[]⟩) (λ_ R s=>s.heap.get? l=some (lwSeq "list" none xs k #[])/\s.heap.get? b=some (lwSeq "list" od ys m sl)/\R (.ok (.ret .none)) {s with heap:=s.heap.update l (Obj.mapSeq (·++ys)),toks:=s.toks}):=by
 refine .of_wp λprog w A R s hR=>?_
 obtain⟨sh,sg,sd,st,so⟩:=s
 obtain⟨e1,e2,fin⟩:=hR
 have i1:=idx_int
 have i2:=sub_tuple_tuple
 have i3:=sub_list_list
 have i4:=sub_tuple_list
 have i5:=sub_list_tuple
 have room:(xs++ys).size<=sizeLine+1:=by
  rw[size_append]
  exact h2
 wp_walk using (wpAny_updateSeq e1 rfl (hz:=h1) (_hz':=room)),wpAny_loadPart' e1,wpAny_loadPart' e2
 exact⟨_,rfl,fin⟩
theorem lw_extend_tuple (l b:Addr)(xs ys:Array Value)(k m:Nat)(od:Option Addr)(sl:Array (Option Value))(h0:¬(!xs.isEmpty && Builtin.List.listTooLong (xs.size+ys.size))=true)(h1:xs.size<=sizeLine)(h2:xs.size+ys.size<=sizeLine+1):
  Meets (Builtin.«list.extend» ⟨[.ref l,.ref b],[]⟩) (λ_ R s=>s.heap.get? l=some (lwSeq "list" none xs k #[])/\s.heap.get? b=some (lwSeq "tuple" od ys m sl)/\R (.ok (.ret .none)) {s with heap:=s.heap.update l (Obj.mapSeq (·++ys)),toks:=s.toks}):=by
 refine .of_wp λprog w A R s hR=>?_
 obtain⟨sh,sg,sd,st,so⟩:=s
 obtain⟨e1,e2,fin⟩:=hR
 have i1:=idx_int
 have i2:=sub_tuple_tuple
 have i3:=sub_list_list
 have i4:=sub_tuple_list
 have i5:=sub_list_tuple
 have room:(xs++ys).size<=sizeLine+1:=by
  rw[size_append]
  exact h2
 wp_walk using (wpAny_updateSeq e1 rfl (hz:=h1) (_hz':=room)),wpAny_loadPart' e1,wpAny_loadPart' e2
 exact⟨_,rfl,fin⟩
theorem lw_add_list (l b:Addr)(xs ys:Array Value)(k m:Nat)(od oe:Option Addr)(sl sm:Array (Option Value))(h0:xs.size+ys.size<=sizeLine):
  Meets (Builtin.«list.__add__» ⟨[.ref l,.ref b],[]⟩) (λ_ R s=>s.heap.get? l=some (lwSeq "list" od xs k sl)/\s.heap.get? b=some (lwSeq "list" oe ys m sm)/\R (.ok (.ret (.ref s.heap.objs.size))) {s with heap:=s.heap.push {cls:=.type "list",data:=.seq (xs++ys)},toks:=s.toks}):=by
 refine .of_wp λprog w A R s hR=>?_
 obtain⟨sh,sg,sd,st,so⟩:=s
 obtain⟨e1,e2,fin⟩:=hR
 have i1:=idx_int
 have i2:=sub_tuple_tuple
 have i3:=sub_list_list
 have i4:=sub_tuple_list
 have i5:=sub_list_tuple
 wp_walk using wpAny_loadPart' e1,wpAny_loadPart' e2
 exact⟨_,rfl,fin⟩
end PySem
namespace L2
open PySem PySem.Spec PyProof.Rows
section
variable {X:Cx}{K:Frag}
def rExtendS (K:Frag):V->List V->Hp->VK->Prop:=λx vs H Q=>∃l b xs zs,x = .ref l/\vs=[.ref b]/\H l=some (.lst xs)/\(SqL K H b zs∨SqT K H b zs)/\xs.length+zs.length<=sizeLine/\Q .non (upd H l (.lst (xs++zs)))
theorem mt_extendS:MtM X "list.extend" (rExtendS X.K):=by
 intro pins s Y H x vs v us Q I rx rv h
 obtain⟨l,b,xs,zs,rfl,rfl,hH,hB,hz,q⟩:=h
 cases rx
 obtain⟨u,rfl,ru⟩:=rv.one
 cases ru
 obtain⟨z,its,n,r,hl,e⟩:=I.lstM hH
 have room:∀ys:List Value,ys.length=zs.length->its.toArray.size+ys.toArray.size<=sizeLine:=λys hy=>by rw[size_toArray,size_toArray];omega
 have fits:∀ys:List Value,ys.length=zs.length->¬ (!its.toArray.isEmpty && Builtin.List.listTooLong (its.toArray.size+ys.toArray.size))=true:=λys hy=>by
  rw[notLongL (room ys hy),Bool.and_false]
  exact Bool.false_ne_true
 have fin:∀ys:List Value,Vals zs ys->EP X pins Y Q .none {s with heap:=s.heap.update l (Obj.mapSeq (·++ys.toArray)),toks:=s.toks}:=λys ry=>
  ⟨.non,_,I.lset (its':=its++ys) hH e (by simp) (r.append ry) (by rw[length_append];omega),rfl,q⟩
 rcases hB with hB |hB
 .obtain ⟨ys,ry,⟨o,m,e2,o1,o2,o3⟩,_⟩:=I.list hB
  obtain⟨oc,od,oda,osl⟩:=o
  dsimp only at o1 o3
  subst o1 o3
  have hy:=ry.length
  exact call_meets F.slot_list_extend ⟨_,e,rfl⟩ F.entry_list_extend (F.args_list_extend_2 _ _) (lw_extend_list l b its.toArray ys.toArray n m od osl (fits ys hy.symm) (by rw[size_toArray];omega) (by have:=room ys hy.symm;omega)) ⟨e,e2,fin ys ry⟩
 .obtain ⟨ys,ry,⟨o,e2,o1,m,o3⟩,_⟩:=I.tuple hB
  obtain⟨oc,od,oda,osl⟩:=o
  dsimp only at o1 o3
  subst o1 o3
  have hy:=ry.length
  exact call_meets F.slot_list_extend ⟨_,e,rfl⟩ F.entry_list_extend (F.args_list_extend_2 _ _) (lw_extend_tuple l b its.toArray ys.toArray n m od osl (fits ys hy.symm) (by rw[size_toArray];omega) (by have:=room ys hy.symm;omega)) ⟨e,e2,fin ys ry⟩
def rCatS (K:Frag):R2:=λx y H Q=>∃l b xs zs,x = .ref l/\y = .ref b/\SqL K H l xs/\SqL K H b zs/\xs.length+zs.length<=sizeLine/\∀p H',H p=none->Same H H'->H' p=some (.lst (xs++zs))->Q (.ref p) H'
theorem op_catS:OpR X (binaryOp .Add) (rCatS X.K):=by
 intro pins s Y H x y v u Q I rx ry h
 obtain⟨l,b,xs,zs,rfl,rfl,hA,hB,hz,q⟩:=h
 cases rx
 cases ry
 obtain⟨its,r,⟨o,n,e,o1,o2,o3⟩,_⟩:=I.list hA
 obtain⟨its2,r2,⟨o',n2,e2,p1,p2,p3⟩,_⟩:=I.list hB
 obtain⟨oc,od,oda,osl⟩:=o
 obtain⟨pc,pd,pda,psl⟩:=o'
 dsimp only at o1 o3 p1 p3
 subst o1 o3 p1 p3
 have l1:=r.length
 have l2:=r2.length
 refine PySem.concat_meets ⟨_,e,rfl⟩ ⟨_,e2,rfl⟩ PySem.noFill_list_add PySem.seq_list_add F.slot_list_add F.entry_list_add (F.args_list_add_2 _ _) (lw_add_list l b its.toArray its2.toArray n n2 od pd osl psl (by rw[size_toArray,size_toArray];omega)) ⟨e,e2,?_⟩
 have ea:its.toArray++its2.toArray=(its++its2).toArray:=by simp
 rw[ea]
 exact⟨.ref _,_,I.lnew (t':=s.toks) (r.append r2) (by rw[length_append];omega),rfl,q _ _ I.fresh (Same.new I.fresh) upd_same⟩
def dCatL (Ea Eb:DE):DO:=λG P=>Ea G λx=>Eb G λy=>match x,y with
 | .lst xs,.lst ys=>xs.length+ys.length<=1000000/\P (.nl ((xs++ys).map .fz))
 |_,_=>False
theorem sO_catL {ta tb:TE}{Ea Eb:DE}(ha:SimF K ta Ea)(hb:SimF K tb Eb):SimO K (tOp (rCatS K) ta tb) (dCatL Ea Eb):=λF0 H0 F H Y G P Q e w q=>
 ha F0 H0 F H Y G _ _ e w λx v F1 H1 w1 x1 r1=>hb F0 H0 F1 H1 Y G _ _ (e.on x1) w1 λy u F2 H2 w2 x2 r2=>by
  have x12:=x1.trans x2
  split at w2
  .obtain ⟨p,vs,rfl,h1,h2⟩:=r1.mono x2.ff
   obtain⟨p',vs',rfl,h1',h2'⟩:=r2
   have l1:=h2.length
   have l2:=h2'.length
   exact⟨p,p',vs,vs',rfl,rfl,x2.fh.seq h1,x2.fh.seq h1',sz_le (by omega),λl H' l0 sm lq=>q _ _ F2 H' w2.2 (x12.trans (Ext.grow x2.fh sm)) (RepN.list (x12.hh.free l0) (x2.fh.free l0) lq (h2.append h2'))⟩
  .exact w2.elim
theorem ER.frz {F0 H0 F H:Hp}{Y:St}{G:Dst}{A:Nat->List Addr}(e:ER K F0 H0 F H Y G A)(i:Nat){t:OV}(hi:G[i]?=some (some (.own t))):∃F',EnvR K F0 H0 F' H Y (G.set i (some (.own (.fz t.val)))):=by
 obtain⟨v,hv,hr⟩:=e.own i t hi
 have hlt:=(List.getElem?_eq_some_iff.mp hi).1
 have sm:Same F λa=>if a∈A i then H a else F a:=λb o z=>by
  have hb:b∉A i:=λy=>by rw[(e.new i b y).1]at z;cases z
  dsimp only
  rw[if_neg hb];exact z
 refine⟨λa=>if a∈A i then H a else F a,λj=>if j=i then [] else A j,by simp[e.len],⟨e.ext.ff.trans sm,e.ext.hh,λb o z=>?_,λb o z1 z2 z3=>?_⟩,λj u hj=>?_,λj d hj=>?_,λj=>?_,λj k a hjk h1 h2=>?_,λj a ha=>?_⟩
 .try dsimp only at z
  split at z
  .exact z
  .exact e.ext.fh _ _ z
 .have hb:b∉A i:=λy=>by rw[(e.new i b y).2.1]at z2;cases z2
  rw[if_neg hb];exact e.ext.no b o z1 z2 z3
 .try dsimp only
  by_cases z:j=i
  .subst z
   rw[if_pos rfl]
   rw[getElem?_set_self hlt]at hj
   cases hj
   exact⟨v,hv,rfl,hr.rep sm λa ha xs q=>by rw[if_pos ha];exact q⟩
  .rw [if_neg z]
   rw[getElem?_set_ne (Ne.symm z)]at hj
   obtain⟨v',h1,h2⟩:=e.own j u hj
   exact⟨v',h1,h2.frame sm λa _ xs q=>q⟩
 .by_cases z:j=i
  .subst z
   rw[getElem?_set_self hlt]at hj
   cases hj
  .rw [getElem?_set_ne (Ne.symm z)]at hj
   exact e.bw j d hj
 .try dsimp only
  split
  .exact nodup_nil
  .exact e.nod j
 .try dsimp only at h1 h2
  split at h1
  .cases h1
  .split at h2
   .cases h2
   .exact e.dis j k a hjk h1 h2
 .try dsimp only at ha
  split at ha
  .cases ha
  .rename_i z
   obtain⟨h1,h2,h3⟩:=e.new j a ha
   refine⟨?_,h2,h3⟩
   rw[if_neg λy=>e.dis j i a z ha y];exact h1
def sFrz (i:Nat)(T:DS):DS:=λDe G=>match G[i]? with
 |some (some (.own t))=>T De (G.set i (some (.own (.fz t.val))))
 |_=>False
theorem sS_frz {t:TS}{T:DS}(i:Nat)(h:SimS K t T):SimS K t (sFrz i T):=λF0 H0 F H Y G De En ⟨A,e⟩ l w=>by
 unfold sFrz at w
 split at w
 .rename_i u hu
  obtain⟨F',e'⟩:=e.frz i hu
  exact h F0 H0 F' H Y _ De En e' l w
 .exact w.elim
def sApp2 (i:Nat)(Ei:DE)(E:DO):DS:=λDe G=>match G[i]? with
 |some (some (.own (.nl ts)))=>Ei G λk=>match k with
  | .int k=>0<=k/\∃us,ts[k.toNat]?=some (.nl us)/\us.length<1000000/\E G λr=>De.nx (G.set i (some (.own (.nl (ts.set k.toNat (.nl (us++[r])))))))
  |_=>False
 |_=>False
theorem set_self_of {α:Type}{xs:List α}{i:Nat}{v:α}(h:xs[i]?=some v):xs.set i v=xs:=by
 obtain⟨hi,e⟩:=List.getElem?_eq_some_iff.mp h
 rw[<- e];exact List.set_getElem_self hi
def sExt (i:Nat)(E:DE):DS:=λDe G=>match G[i]? with
 |some (some (.own (.nl ts)))=>E G λd=>match d with
  | .lst ds=>ts.length+ds.length<=1000000/\De.nx (G.set i (some (.own (.nl (ts++ds.map .fz)))))
  | .tup ds=>ts.length+ds.length<=1000000/\De.nx (G.set i (some (.own (.nl (ts++ds.map .fz)))))
  |_=>False
 |_=>False
theorem sS_ext {i:Nat}{te:TE}{E:DE}(h:SimF K te E):SimS K (tDrop (tBM K "list" (rExtendS K) (tVar i) (tCons te tNil))) (sExt i E):=λF0 H0 F H Y G De En e l w=>by
 obtain⟨A,e⟩:=e
 unfold sExt at w
 split at w
 .rename_i ts hs
  obtain⟨v,hv,a,vs,B,rfl,eA,ha,hB⟩:=e.own i _ hs
  refine⟨_,hv,.inl ⟨rfl,_,SqL.of ha⟩,?_⟩
  refine h F0 H0 F H Y G _ _ ⟨A,e⟩ w λd u F1 H1 p x1 r1=>?_
  have e1:=e.on x1
  have hl:=hB.length
  have hB1:RepOs K F1 H1 ts vs B:=hB.frame x1.ff λb _ xs z=>x1.hh _ _ z
  have hnd:=e.nod i
  rw[eA]at hnd
  obtain⟨n1,n2⟩:=nodup_cons.mp hnd
  have fin:∀(ds:List D) (us:List V),Reps K F1 ds us->De.nx (G.set i (some (.own (.nl (ts++ds.map .fz)))))->En.nx Y (upd H1 a (.lst (vs++us))):=λds us hu p=>by
   refine l.nx F1 _ Y _ (e1.change i hv (t':=.nl (ts++ds.map .fz)) (B:=a::(B++[])) ⟨a,vs++us,B++[],rfl,rfl,upd_same,?_⟩ ?_ ?_ ?_ ?_) p
   .exact RepOs.append (hB1.frame (Same.refl _) λb hb xs z=>upd_off (λq=>n1 (by rw[<- q];exact hb)) z) (RepOs.fzs hu)
   .rw [append_nil];exact hnd
   .intro b hb
    rw[append_nil,<- eA]at hb
    exact⟨(e1.new i b hb).1,(e1.new i b hb).2.1⟩
   .intro j hj b hb z
    rw[append_nil,<- eA]at hb
    exact e.dis j i b hj z hb
   .intro b o hb q
    exact upd_off (λz=>hb (by rw[eA,z];exact mem_cons_self)) q
  try dsimp only at p
  split at p
  .obtain ⟨c,us,rfl,q1,q2⟩:=r1
   have:=q2.length
   exact⟨a,c,vs,us,rfl,rfl,x1.hh _ _ ha,.inl (x1.fh.seq q1),sz_le (by omega),fin _ us q2 p.2⟩
  .obtain ⟨c,us,rfl,q1,q2⟩:=r1
   have:=q2.length
   exact⟨a,c,vs,us,rfl,rfl,x1.hh _ _ ha,.inr (x1.fh.seqT q1),sz_le (by omega),fin _ us q2 p.2⟩
  .exact p.elim
 .exact w.elim
end
def catTD:DR2:=λx y P=>match x,y with
 | .tup xs,.tup ys=>xs≠[]/\ys≠[]/\xs.length+ys.length<=1000000/\P (.tup (xs++ys))
 |_,_=>False
def D.fit:Nat->D->Bool
 |_,.int _=>true
 |_,.str _=>true
 |_,.non=>true
 |_,.bl _=>true
 |_,.ty _=>false
 |_,.fn _=>false
 |_,.dic=>false
 |_,.exc _=>false
 |_,.obj _ _ _=>false
 | 0,.tup _=>false
 | 0,.lst _=>false
 |n+1,.tup ds=>ds.all (D.fit n)
 |n+1,.lst ds=>ds.all (D.fit n)
mutual
def D.eqb:D->D->Bool
 | .int i,.int j=>decide (i=j)
 | .str x,.str y=>decide (x=y)
 | .non,.non=>true
 | .bl a,.bl b=>a==b
 | .bl a,.int j=>decide ((if a then 1 else 0)=j)
 | .int i,.bl b=>decide (i=if b then 1 else 0)
 | .tup xs,.tup ys=>D.eqbs xs ys
 | .lst xs,.lst ys=>D.eqbs xs ys
 |_,_=>false
def D.eqbs:List D->List D->Bool
 | [],[]=>true
 |x::xs,y::ys=>D.eqb x y && D.eqbs xs ys
 |_,_=>false
end
mutual
theorem D.eqb_refl:∀{d:D} {n:Nat},d.fit n=true->D.eqb d d=true
 | .int _,_,_=>by simp[D.eqb]
 | .str _,_,_=>by simp[D.eqb]
 | .non,_,_=>by simp[D.eqb]
 | .bl _,_,_=>by simp[D.eqb]
 | .ty _,_,h=>by simp[D.fit]at h
 | .fn _,_,h=>by simp[D.fit]at h
 | .dic,_,h=>by simp[D.fit]at h
 | .exc _,_,h=>by simp[D.fit]at h
 | .obj _ _ _,_,h=>by simp[D.fit]at h
 | .tup ds,0,h=>by simp[D.fit]at h
 | .lst ds,0,h=>by simp[D.fit]at h
 | .tup ds,n+1,h=>by
  simp only[D.eqb]
  exact D.eqbs_refl (n:=n) (by simpa only[D.fit] using h)
 | .lst ds,n+1,h=>by
  simp only[D.eqb]
  exact D.eqbs_refl (n:=n) (by simpa only[D.fit] using h)
theorem D.eqbs_refl:∀{ds:List D} {n:Nat},ds.all (D.fit n)=true->D.eqbs ds ds=true
 | [],_,_=>by simp[D.eqbs]
 |d::ds,n,h=>by
  rw[all_cons,and_eq_true]at h
  simp only[D.eqbs,D.eqb_refl h.1,D.eqbs_refl h.2,Bool.and_self]
end
def D.same:D->D->Bool
 | .tup _,.tup _=>true
 | .lst _,.lst _=>true
 |_,_=>false
def eqND:DR2:=λx y P=>x.same y=true/\x.fit 4=true/\y.fit 4=true/\P (.bl (D.eqb x y))
def neND:DR2:=λx y P=>x.same y=true/\x.fit 4=true/\y.fit 4=true/\P (.bl (!D.eqb x y))
def allD:List D->(D->Prop)->Prop:=λds P=>match ds with
 | [.lst xs]=>∃bs:List Bool,xs=bs.map D.bl/\P (.bl (bs.all id))
 |_=>False
def dTruth (E:DE):DT:=λG P=>E G λd=>match d with
 | .bl b=>P b
 | .int i=>P (decide (i≠0))
 | .lst xs=>P (!xs.isEmpty)
 | .tup xs=>P (!xs.isEmpty)
 | .non=>P false
 |_=>False
section
variable {K:Frag}{X:Cx}
theorem sF_catT {ta tb:TE}{Ea Eb:DE}(ha:SimF K ta Ea)(hb:SimF K tb Eb):SimF K (tOp (rCatTS K) ta tb) (dOp catTD Ea Eb):=λF0 H0 F H Y G P Q e w q=>
 ha F0 H0 F H Y G _ _ e w λx v F1 H1 w1 x1 r1=>hb F0 H0 F1 H1 Y G _ _ (e.on x1) w1 λy u F2 H2 w2 x2 r2=>by
  have x12:=x1.trans x2
  unfold catTD at w2
  split at w2
  .obtain ⟨p,vs,rfl,h1,h2⟩:=r1.mono x2.ff
   obtain⟨p',vs',rfl,h1',h2'⟩:=r2
   obtain⟨n1,n2,hz,w2⟩:=w2
   have l1:=h2.length
   have l2:=h2'.length
   have m1:vs≠[]:=λz=>n1 (List.length_eq_zero_iff.mp (by rw[l1,z];rfl))
   have m2:vs'≠[]:=λz=>n2 (List.length_eq_zero_iff.mp (by rw[l2,z];rfl))
   exact⟨p,p',vs,vs',rfl,rfl,x2.fh.seqT h1,x2.fh.seqT h1',m1,m2,sz_le (by omega),λl H' l0 sm lq=>q _ _ _ H' w2 (x12.trans (Ext.new x2.fh l0 sm lq)) ⟨l,vs++vs',rfl,.inl (.inl upd_same),(h2.append h2').mono (Same.upd' (x2.fh.free l0))⟩⟩
  .exact w2.elim
def eD (xs ys:List D)(j:Nat):Bool:=match xs[j]?,ys[j]? with
 |some x,some y=>D.eqb x y
 |_,_=>true
theorem eqbs_rng:∀(xs ys:List D),D.eqbs xs ys=((List.range (min xs.length ys.length)).all (eD xs ys) && xs.length==ys.length)
 | [],[]=>by simp[D.eqbs]
 | [],_::_=>by simp[D.eqbs]
 |_::_,[]=>by simp[D.eqbs]
 |x :: xs,y::ys=>by
  have ih:=eqbs_rng xs ys
  simp only[D.eqbs,length_cons]
  rw[show min (xs.length+1) (ys.length+1)=min xs.length ys.length+1 by omega,List.range_succ_eq_map,all_cons,List.all_map,ih]
  have e0:eD (x::xs) (y::ys) 0=D.eqb x y:=rfl
  have e1:(eD (x::xs) (y::ys)∘Nat.succ)=eD xs ys:=by
   funext j
   simp[eD,Function.comp]
  rw[e0,e1,Bool.and_assoc]
  congr 2
  simp
theorem rep_one {pins:List (Addr×Obj)}{Y:St}{H:Hp}{s:Shared}(I:Inv X pins Y H s):∀(n:Nat) {x y:D} {v:V},x.fit n=true->y.fit n=true->Rep X.K H x v->Rep X.K H y v->D.eqb x y=true:=by
 have items:∀(n:Nat),(∀{x y:D} {v:V},x.fit n=true->y.fit n=true->Rep X.K H x v->Rep X.K H y v->D.eqb x y=true)->∀{xs ys:List D} {vs:List V},xs.all (D.fit n)=true->ys.all (D.fit n)=true->Reps X.K H xs vs->Reps X.K H ys vs->D.eqbs xs ys=true:=by
  intro n ih xs
  induction xs with
  |nil=>
   intro ys vs _ _ r1 r2
   cases r1
   cases ys with
   |nil=>rfl
   |cons y ys=>obtain⟨v,r,e,_⟩:=r2;cases e
  |cons x xs ihx=>
   intro ys vs f1 f2 r1 r2
   obtain⟨v,r,rfl,h1,h2⟩:=r1
   cases ys with
   |nil=>cases r2
   |cons y ys=>
    obtain⟨v',r',e,h3,h4⟩:=r2
    cases e
    rw[all_cons,and_eq_true]at f1 f2
    simp only[D.eqbs,ih f1.1 f2.1 h1 h3,ihx f1.2 f2.2 h2 h4,Bool.and_self]
 have tl:∀{a:Addr} {xs ys:List V},SqT X.K H a xs->SqL X.K H a ys->False:=λ{a xs ys} h1 h2=>by
  obtain⟨_,_,p1,_⟩:=I.tuple h1
  obtain⟨_,_,p2,_⟩:=I.list h2
  obtain⟨o,e1,c1,_⟩:=p1
  obtain⟨o',e2,c2,_⟩:=p2.isList
  rw[e1]at e2;cases e2
  rw[c1]at c2;simp at c2
 intro n
 induction n with
 |zero=>
  intro x y v fx fy rx ry
  cases x<;>cases y<;>simp[D.fit]at fx fy<;>simp[D.eqb]
  all_goals first
   | (have z:=(show v=_ from rx).symm.trans (show v=_ from ry);first | (injection z) | (cases z))
   |skip
 |succ n ih=>
  intro x y v fx fy rx ry
  cases x<;>cases y
  case tup.tup xs ys=>
   obtain⟨a,vs,rfl,h1,h2⟩:=rx
   obtain⟨b,us,e,h3,h4⟩:=ry
   cases e
   cases I.tuple_inj h1 h3
   simp only[D.eqb]
   exact items n ih (by simpa only[D.fit] using fx) (by simpa only[D.fit] using fy) h2 h4
  case lst.lst xs ys=>
   obtain⟨a,vs,rfl,h1,h2⟩:=rx
   obtain⟨b,us,e,h3,h4⟩:=ry
   cases e
   cases I.list_inj h1 h3
   simp only[D.eqb]
   exact items n ih (by simpa only[D.fit] using fx) (by simpa only[D.fit] using fy) h2 h4
  case tup.lst xs ys=>
   obtain⟨a,vs,rfl,h1,h2⟩:=rx
   obtain⟨b,us,e,h3,h4⟩:=ry
   cases e
   exact (tl h1 h3).elim
  case lst.tup xs ys=>
   obtain⟨a,vs,rfl,h1,h2⟩:=rx
   obtain⟨b,us,e,h3,h4⟩:=ry
   cases e
   exact (tl h3 h1).elim
  all_goals first
   | (simp[D.fit]at fx;done)
   | (simp[D.fit]at fy;done)
   | (have z:=(show v=_ from rx).symm.trans (show v=_ from ry);first | (cases z;done) | (injection z with z;simp[D.eqb,z];done) | (simp[D.eqb];done))
   | (obtain⟨a,vs,e,_⟩:=rx;have z:=e.symm.trans (show v=_ from ry);cases z;done)
   | (obtain⟨a,vs,e,_⟩:=ry;have z:=(show v=_ from rx).symm.trans e;cases z;done)
theorem eqAt_D {pins:List (Addr×Obj)}{Y:St}{H:Hp}{s:Shared}(I:Inv X pins Y H s):∀(n:Nat) {A:Around} {x y:D} {v u:V} {a b:Value},A.units+n<cLine->x.fit n=true->y.fit n=true->Rep X.K H x v->Rep X.K H y u->RelV v a->RelV u b->SeqAt.EqAt A s a b (D.eqb x y):=by
 intro n
 induction n with
 |zero=>
  intro A x y v u a b hu fx fy rx ry ra rb
  by_cases hbl:(∃c,x = .bl c)∨∃c,y = .bl c
  .cases x<;>cases y<;>first | (simp[D.fit]at fx;done) | (simp[D.fit]at fy;done) | (rcases hbl with⟨c,z⟩ | ⟨c,z⟩<;>cases z;done) |skip
   case bl.bl=>cases (show v=_ from rx);cases (show u=_ from ry);cases ra;cases rb;simp only[D.eqb];exact SeqAt.EqAt.bool_bool _ _
   case bl.int=>cases (show v=_ from rx);cases (show u=_ from ry);cases ra;obtain⟨t,rfl⟩:=rb;simp only[D.eqb];rw[<- show ∀i j:Int,(i==j)=decide (i=j) from λi j=>by rw[Bool.eq_iff_iff];simp];exact SeqAt.EqAt.bool_int _ _ _
   case int.bl=>cases (show v=_ from rx);cases (show u=_ from ry);cases rb;obtain⟨t,rfl⟩:=ra;simp only[D.eqb];rw[<- show ∀i j:Int,(i==j)=decide (i=j) from λi j=>by rw[Bool.eq_iff_iff];simp];exact SeqAt.EqAt.int_bool _ _ _
   case bl.non=>cases (show v=_ from rx);cases (show u=_ from ry);cases ra;cases rb;exact SeqAt.EqAt.bool_none _
   case non.bl=>cases (show v=_ from rx);cases (show u=_ from ry);cases ra;cases rb;exact SeqAt.EqAt.none_bool _
   case bl.str=>cases (show v=_ from rx);cases (show u=_ from ry);cases ra;obtain⟨t,rfl⟩:=rb;exact SeqAt.EqAt.bool_str _ _ _
   case str.bl=>cases (show v=_ from rx);cases (show u=_ from ry);cases rb;obtain⟨t,rfl⟩:=ra;exact SeqAt.EqAt.str_bool _ _ _
  have key:flatV v=true/\flatV u=true/\eqV v u=D.eqb x y:=by
   cases x<;>cases y<;>first | (simp[D.fit]at fx;done) | (simp[D.fit]at fy;done) | (exact absurd (.inl ⟨_,rfl⟩) hbl) | (exact absurd (.inr ⟨_,rfl⟩) hbl) |skip
   all_goals
    have e1:v=_:=rx
    have e2:u=_:=ry
    subst e1 e2
    refine⟨rfl,rfl,?_⟩
    first |rfl | (simp[eqV,D.eqb];done) | (simp only[eqV,D.eqb];exact Bool.beq_eq_decide_eq _ _)
  rw[<- key.2.2]
  exact eqAt_V ra rb key.1 key.2.1
 |succ n ih=>
  intro A x y v u a b hu fx fy rx ry ra rb
  have hu0:A.units<cLine:=by omega
  have hu1:A.in1.units+n<cLine:=by rw[show A.in1.units=A.units+1 from rfl];omega
  cases x<;>cases y
  case tup.tup xs ys=>
   obtain⟨p,vs,rfl,h1,h2⟩:=rx
   obtain⟨q,us,rfl,h3,h4⟩:=ry
   cases ra
   cases rb
   by_cases hpq:p=q
   .subst hpq
    have:=rep_one I (n+1) fx fy (v:=.ref p) ⟨p,vs,rfl,h1,h2⟩ ⟨p,us,rfl,h3,h4⟩
    rw[this]
    exact SeqAt.EqAt.same _
   .obtain ⟨its,w1,p1,_⟩:=I.tuple h1
    obtain⟨its2,w2,p2,_⟩:=I.tuple h3
    have l1:=h2.length
    have l2:=h4.length
    have m1:=w1.length
    have m2:=w2.length
    simp only[D.fit]at fx fy
    have:=SeqAt.RcAt.tuples (e:=eD xs ys) p1 p2 hu0 (λj j1 j2=>by
     obtain⟨z1,e1,r1⟩:=w1.at j1
     obtain⟨z2,e2,r2⟩:=w2.at j2
     obtain⟨d1,g1,k1⟩:=h2.get' e1
     obtain⟨d2,g2,k2⟩:=h4.get' e2
     have e:eD xs ys j=D.eqb d1 d2:=by unfold eD;rw[g1,g2]
     rw[e]
     exact ih hu1 (all_eq_true.mp fx d1 (mem_of_getElem? g1)) (all_eq_true.mp fy d2 (mem_of_getElem? g2)) k1 k2 r1 r2)
    rw[show its.toArray.size=xs.length by rw[size_toArray];omega,show its2.toArray.size=ys.length by rw[size_toArray];omega,<- eqbs_rng]at this
    simp only[D.eqb]
    exact SeqAt.EqAt.of_refs hpq this
  case lst.lst xs ys=>
   obtain⟨p,vs,rfl,h1,h2⟩:=rx
   obtain⟨q,us,rfl,h3,h4⟩:=ry
   cases ra
   cases rb
   by_cases hpq:p=q
   .subst hpq
    have:=rep_one I (n+1) fx fy (v:=.ref p) ⟨p,vs,rfl,h1,h2⟩ ⟨p,us,rfl,h3,h4⟩
    rw[this]
    exact SeqAt.EqAt.same _
   .obtain ⟨its,w1,p1,_⟩:=I.list h1
    obtain⟨its2,w2,p2,_⟩:=I.list h3
    have l1:=h2.length
    have l2:=h4.length
    have m1:=w1.length
    have m2:=w2.length
    simp only[D.fit]at fx fy
    simp only[D.eqb]
    refine SeqAt.EqAt.of_refs hpq ?_
    by_cases hl:xs.length=ys.length
    .have:=SeqAt.RcAt.lists (e:=eD xs ys) p1.isList p2.isList (by rw[size_toArray,size_toArray];omega) hu0 (λj j1 j2=>by
      obtain⟨z1,e1,r1⟩:=w1.at j1
      obtain⟨z2,e2,r2⟩:=w2.at j2
      obtain⟨d1,g1,k1⟩:=h2.get' e1
      obtain⟨d2,g2,k2⟩:=h4.get' e2
      have e:eD xs ys j=D.eqb d1 d2:=by unfold eD;rw[g1,g2]
      rw[e]
      exact ih hu1 (all_eq_true.mp fx d1 (mem_of_getElem? g1)) (all_eq_true.mp fy d2 (mem_of_getElem? g2)) k1 k2 r1 r2)
     rw[eqbs_rng,<- hl,min_self,beq_self_eq_true,Bool.and_true]
     rw[show its.toArray.size=xs.length by rw[size_toArray];omega]at this
     exact this
    .rw [eqbs_rng,show (xs.length==ys.length)=false by simpa using hl,Bool.and_false]
     exact SeqAt.RcAt.lists_lengths p1.isList p2.isList (by rw[size_toArray,size_toArray];simp only[bne_iff_ne,ne_eq];omega) hu0
  case tup.lst xs ys=>
   obtain⟨p,vs,rfl,h1,h2⟩:=rx
   obtain⟨q,us,rfl,h3,h4⟩:=ry
   cases ra
   cases rb
   obtain⟨its,w1,p1,_⟩:=I.tuple h1
   obtain⟨its2,w2,p2,_⟩:=I.list h3
   exact SeqAt.EqAt.tuple_list p1 p2.isList hu0
  case lst.tup xs ys=>
   obtain⟨p,vs,rfl,h1,h2⟩:=rx
   obtain⟨q,us,rfl,h3,h4⟩:=ry
   cases ra
   cases rb
   obtain⟨its,w1,p1,_⟩:=I.list h1
   obtain⟨its2,w2,p2,_⟩:=I.tuple h3
   exact SeqAt.EqAt.list_tuple p1.isList p2 hu0
  case bl.tup=>obtain⟨p,vs,rfl,h1,_⟩:=ry;cases rb;cases (show v=_ from rx);cases ra;obtain⟨its,w1,p1,_⟩:=I.tuple h1;exact SeqAt.EqAt.bool_tuple _ p1 hu0
  case bl.lst=>obtain⟨p,vs,rfl,h1,_⟩:=ry;cases rb;cases (show v=_ from rx);cases ra;obtain⟨its,w1,p1,_⟩:=I.list h1;exact SeqAt.EqAt.bool_list _ p1.isList hu0
  case ty.tup=>simp[D.fit]at fx
  case ty.lst=>simp[D.fit]at fx
  case fn.tup=>simp[D.fit]at fx
  case fn.lst=>simp[D.fit]at fx
  case dic.tup=>simp[D.fit]at fx
  case dic.lst=>simp[D.fit]at fx
  case exc.tup=>simp[D.fit]at fx
  case obj.tup=>simp[D.fit]at fx
  case obj.lst=>simp[D.fit]at fx
  case tup.obj=>simp[D.fit]at fy
  case lst.obj=>simp[D.fit]at fy
  case exc.lst=>simp[D.fit]at fx
  case tup.dic=>simp[D.fit]at fy
  case lst.dic=>simp[D.fit]at fy
  case tup.exc=>simp[D.fit]at fy
  case lst.exc=>simp[D.fit]at fy
  case tup.bl=>obtain⟨p,vs,rfl,h1,_⟩:=rx;cases ra;cases (show u=_ from ry);cases rb;obtain⟨its,w1,p1,_⟩:=I.tuple h1;exact SeqAt.EqAt.tuple_bool _ p1 hu0
  case lst.bl=>obtain⟨p,vs,rfl,h1,_⟩:=rx;cases ra;cases (show u=_ from ry);cases rb;obtain⟨its,w1,p1,_⟩:=I.list h1;exact SeqAt.EqAt.list_bool _ p1.isList hu0
  case tup.ty=>simp[D.fit]at fy
  case lst.ty=>simp[D.fit]at fy
  case tup.fn=>simp[D.fit]at fy
  case lst.fn=>simp[D.fit]at fy
  case tup.int=>obtain⟨p,vs,rfl,h1,_⟩:=rx;cases ra;cases (show u=_ from ry);obtain⟨t,rfl⟩:=rb;obtain⟨its,w1,p1,_⟩:=I.tuple h1;exact SeqAt.EqAt.tuple_int _ _ p1 hu0
  case tup.non=>obtain⟨p,vs,rfl,h1,_⟩:=rx;cases ra;cases (show u=_ from ry);cases rb;obtain⟨its,w1,p1,_⟩:=I.tuple h1;exact SeqAt.EqAt.tuple_none p1 hu0
  case tup.str=>obtain⟨p,vs,rfl,h1,_⟩:=rx;cases ra;cases (show u=_ from ry);obtain⟨t,rfl⟩:=rb;obtain⟨its,w1,p1,_⟩:=I.tuple h1;exact SeqAt.EqAt.tuple_str _ _ p1 hu0
  case lst.int=>obtain⟨p,vs,rfl,h1,_⟩:=rx;cases ra;cases (show u=_ from ry);obtain⟨t,rfl⟩:=rb;obtain⟨its,w1,p1,_⟩:=I.list h1;exact SeqAt.EqAt.list_int _ _ p1.isList hu0
  case lst.non=>obtain⟨p,vs,rfl,h1,_⟩:=rx;cases ra;cases (show u=_ from ry);cases rb;obtain⟨its,w1,p1,_⟩:=I.list h1;exact SeqAt.EqAt.list_none p1.isList hu0
  case lst.str=>obtain⟨p,vs,rfl,h1,_⟩:=rx;cases ra;cases (show u=_ from ry);obtain⟨t,rfl⟩:=rb;obtain⟨its,w1,p1,_⟩:=I.list h1;exact SeqAt.EqAt.list_str _ _ p1.isList hu0
  case int.tup=>obtain⟨p,vs,rfl,h1,_⟩:=ry;cases rb;cases (show v=_ from rx);obtain⟨t,rfl⟩:=ra;obtain⟨its,w1,p1,_⟩:=I.tuple h1;exact SeqAt.EqAt.int_tuple _ _ p1 hu0
  case non.tup=>obtain⟨p,vs,rfl,h1,_⟩:=ry;cases rb;cases (show v=_ from rx);cases ra;obtain⟨its,w1,p1,_⟩:=I.tuple h1;exact SeqAt.EqAt.none_tuple p1 hu0
  case str.tup=>obtain⟨p,vs,rfl,h1,_⟩:=ry;cases rb;cases (show v=_ from rx);obtain⟨t,rfl⟩:=ra;obtain⟨its,w1,p1,_⟩:=I.tuple h1;exact SeqAt.EqAt.str_tuple _ _ p1 hu0
  case int.lst=>obtain⟨p,vs,rfl,h1,_⟩:=ry;cases rb;cases (show v=_ from rx);obtain⟨t,rfl⟩:=ra;obtain⟨its,w1,p1,_⟩:=I.list h1;exact SeqAt.EqAt.int_list _ _ p1.isList hu0
  case non.lst=>obtain⟨p,vs,rfl,h1,_⟩:=ry;cases rb;cases (show v=_ from rx);cases ra;obtain⟨its,w1,p1,_⟩:=I.list h1;exact SeqAt.EqAt.none_list p1.isList hu0
  case str.lst=>obtain⟨p,vs,rfl,h1,_⟩:=ry;cases rb;cases (show v=_ from rx);obtain⟨t,rfl⟩:=ra;obtain⟨its,w1,p1,_⟩:=I.list h1;exact SeqAt.EqAt.str_list _ _ p1.isList hu0
  all_goals
   refine ih (by omega) ?_ ?_ rx ry ra rb
   .first |rfl | (simp[D.fit]at fx;done) | (simp[D.fit];done)
   .first |rfl | (simp[D.fit]at fy;done) | (simp[D.fit];done)
def rEqN (K:Frag):R2:=λv u H Q=>∃x y,x.same y=true/\x.fit 4=true/\y.fit 4=true/\Rep K H x v/\Rep K H y u/\Q (.bl (D.eqb x y)) H
def rNeN (K:Frag):R2:=λv u H Q=>∃x y,x.same y=true/\x.fit 4=true/\y.fit 4=true/\Rep K H x v/\Rep K H y u/\Q (.bl (!D.eqb x y)) H
theorem op_eqN (hu:X.A.units+64<cLine):OpR X (compareOp .Eq) (rEqN X.K):=by
 intro pins s Y H v u a b Q I ra rb h
 obtain⟨x,y,hs,fx,fy,rx,ry,q⟩:=h
 have hu0:X.A.units<cLine:=by omega
 have hu1:X.A.in1.units+3<cLine:=by rw[show X.A.in1.units=X.A.units+1 from rfl];omega
 cases x<;>cases y<;>first | (simp[D.same]at hs;done) |skip
 case tup.tup xs ys=>
  obtain⟨p,vs,rfl,h1,h2⟩:=rx
  obtain⟨p',us,rfl,h3,h4⟩:=ry
  cases ra
  cases rb
  obtain⟨its,w1,p1,_⟩:=I.tuple h1
  obtain⟨its2,w2,p2,_⟩:=I.tuple h3
  have l1:=h2.length
  have l2:=h4.length
  have m1:=w1.length
  have m2:=w2.length
  simp only[D.fit]at fx fy
  refine SeqAt.RcAt.tuples (e:=eD xs ys) p1 p2 hu0 (λj j1 j2=>by
   obtain⟨z1,e1,r1⟩:=w1.at j1
   obtain⟨z2,e2,r2⟩:=w2.at j2
   obtain⟨d1,g1,k1⟩:=h2.get' e1
   obtain⟨d2,g2,k2⟩:=h4.get' e2
   have e:eD xs ys j=D.eqb d1 d2:=by unfold eD;rw[g1,g2]
   rw[e]
   exact eqAt_D I 3 hu1 (all_eq_true.mp fx d1 (mem_of_getElem? g1)) (all_eq_true.mp fy d2 (mem_of_getElem? g2)) k1 k2 r1 r2) _ _ _ _ ?_
  rw[show its.toArray.size=xs.length by rw[size_toArray];omega,show its2.toArray.size=ys.length by rw[size_toArray];omega,<- eqbs_rng]
  simp only[D.eqb]at q
  exact⟨.bl _,H,I,rfl,q⟩
 case lst.lst xs ys=>
  obtain⟨p,vs,rfl,h1,h2⟩:=rx
  obtain⟨p',us,rfl,h3,h4⟩:=ry
  cases ra
  cases rb
  obtain⟨its,w1,p1,_⟩:=I.list h1
  obtain⟨its2,w2,p2,_⟩:=I.list h3
  have l1:=h2.length
  have l2:=h4.length
  have m1:=w1.length
  have m2:=w2.length
  simp only[D.fit]at fx fy
  simp only[D.eqb]at q
  rw[eqbs_rng]at q
  by_cases hl:xs.length=ys.length
  .refine SeqAt.RcAt.lists (e:=eD xs ys) p1.isList p2.isList (by rw[size_toArray,size_toArray];omega) hu0 (λj j1 j2=>by
    obtain⟨z1,e1,r1⟩:=w1.at j1
    obtain⟨z2,e2,r2⟩:=w2.at j2
    obtain⟨d1,g1,k1⟩:=h2.get' e1
    obtain⟨d2,g2,k2⟩:=h4.get' e2
    have e:eD xs ys j=D.eqb d1 d2:=by unfold eD;rw[g1,g2]
    rw[e]
    exact eqAt_D I 3 hu1 (all_eq_true.mp fx d1 (mem_of_getElem? g1)) (all_eq_true.mp fy d2 (mem_of_getElem? g2)) k1 k2 r1 r2) _ _ _ _ ?_
   rw[<- hl,min_self,beq_self_eq_true,Bool.and_true]at q
   rw[show its.toArray.size=xs.length by rw[size_toArray];omega]
   exact⟨.bl _,H,I,rfl,q⟩
  .rw [show (xs.length==ys.length)=false by simpa using hl,Bool.and_false]at q
   exact SeqAt.RcAt.lists_lengths p1.isList p2.isList (by rw[size_toArray,size_toArray];simp only[bne_iff_ne,ne_eq];omega) hu0 _ _ _ _ ⟨.bl _,H,I,rfl,q⟩
theorem op_neN (hu:X.A.units+64<cLine):OpR X (compareOp .NotEq) (rNeN X.K):=by
 intro pins s Y H v u a b Q I ra rb h
 obtain⟨x,y,hs,fx,fy,rx,ry,q⟩:=h
 have hu0:X.A.units<cLine:=by omega
 have hu1:X.A.in1.units+3<cLine:=by rw[show X.A.in1.units=X.A.units+1 from rfl];omega
 cases x<;>cases y<;>first | (simp[D.same]at hs;done) |skip
 case tup.tup xs ys=>
  obtain⟨p,vs,rfl,h1,h2⟩:=rx
  obtain⟨p',us,rfl,h3,h4⟩:=ry
  cases ra
  cases rb
  obtain⟨its,w1,p1,_⟩:=I.tuple h1
  obtain⟨its2,w2,p2,_⟩:=I.tuple h3
  have l1:=h2.length
  have l2:=h4.length
  have m1:=w1.length
  have m2:=w2.length
  simp only[D.fit]at fx fy
  refine SeqAt.RcNeAt.tuples (e:=eD xs ys) p1 p2 hu0 (λj j1 j2=>by
   obtain⟨z1,e1,r1⟩:=w1.at j1
   obtain⟨z2,e2,r2⟩:=w2.at j2
   obtain⟨d1,g1,k1⟩:=h2.get' e1
   obtain⟨d2,g2,k2⟩:=h4.get' e2
   have e:eD xs ys j=D.eqb d1 d2:=by unfold eD;rw[g1,g2]
   rw[e]
   exact eqAt_D I 3 hu1 (all_eq_true.mp fx d1 (mem_of_getElem? g1)) (all_eq_true.mp fy d2 (mem_of_getElem? g2)) k1 k2 r1 r2) _ _ _ _ ?_
  rw[show its.toArray.size=xs.length by rw[size_toArray];omega,show its2.toArray.size=ys.length by rw[size_toArray];omega,<- eqbs_rng]
  simp only[D.eqb]at q
  exact⟨.bl _,H,I,rfl,q⟩
 case lst.lst xs ys=>
  obtain⟨p,vs,rfl,h1,h2⟩:=rx
  obtain⟨p',us,rfl,h3,h4⟩:=ry
  cases ra
  cases rb
  obtain⟨its,w1,p1,_⟩:=I.list h1
  obtain⟨its2,w2,p2,_⟩:=I.list h3
  have l1:=h2.length
  have l2:=h4.length
  have m1:=w1.length
  have m2:=w2.length
  simp only[D.fit]at fx fy
  simp only[D.eqb]at q
  rw[eqbs_rng]at q
  by_cases hl:xs.length=ys.length
  .refine SeqAt.RcNeAt.lists (e:=eD xs ys) p1.isList p2.isList (by rw[size_toArray,size_toArray];omega) hu0 (λj j1 j2=>by
    obtain⟨z1,e1,r1⟩:=w1.at j1
    obtain⟨z2,e2,r2⟩:=w2.at j2
    obtain⟨d1,g1,k1⟩:=h2.get' e1
    obtain⟨d2,g2,k2⟩:=h4.get' e2
    have e:eD xs ys j=D.eqb d1 d2:=by unfold eD;rw[g1,g2]
    rw[e]
    exact eqAt_D I 3 hu1 (all_eq_true.mp fx d1 (mem_of_getElem? g1)) (all_eq_true.mp fy d2 (mem_of_getElem? g2)) k1 k2 r1 r2) _ _ _ _ ?_
   rw[<- hl,min_self,beq_self_eq_true,Bool.and_true]at q
   rw[show its.toArray.size=xs.length by rw[size_toArray];omega]
   exact⟨.bl _,H,I,rfl,q⟩
  .rw [show (xs.length==ys.length)=false by simpa using hl,Bool.and_false]at q
   exact SeqAt.RcNeAt.lists_lengths p1.isList p2.isList (by rw[size_toArray,size_toArray];simp only[bne_iff_ne,ne_eq];omega) hu0 _ _ _ _ ⟨.bl _,H,I,rfl,q⟩
theorem oS_eqN:OpS K (rEqN K) eqND:=λF H x y v u P Q s rx ry w q=>by
 obtain⟨hs,fx,fy,w⟩:=w
 exact⟨x,y,hs,fx,fy,rx,ry,q _ _ F H w (Ext.refl s) rfl⟩
theorem oS_neN:OpS K (rNeN K) neND:=λF H x y v u P Q s rx ry w q=>by
 obtain⟨hs,fx,fy,w⟩:=w
 exact⟨x,y,hs,fx,fy,rx,ry,q _ _ F H w (Ext.refl s) rfl⟩
end
structure BltV (mg:Str->Option Value):Prop extends Blt mg where
 abs:mg "abs"=none
 any:mg "any"=none
 sum:mg "sum"=none
 sorted:mg "sorted"=none
 set:mg "set"=none
 enumerate:mg "enumerate"=none
 dict:mg "dict"=none
 str:mg "str"=none
 divmod:mg "divmod"=none
 ord:mg "ord"=none
section
variable {K:Frag}{X:Cx}{mg:Str->Option Value}
def NsOf (K:Frag)(mg:Str->Option Value)(x:Str):Prop:=∃f,nsIn K mainGlobals x=some (some (.ref f))/\mg x=some (.ref f)
def tFn (K:Frag)(x:Str):TE:=λY H Q=>∃f,nsIn K mainGlobals x=some (some (.ref f))/\Q (.ref f) H
theorem pe_fn {x:Str}{pos:Pos}(hg:Gl X x)(h:NsOf X.K X.mg x)(hd:(x==("__debug__":Str))=false:=by decide):PE X (.Name x pos) (tFn X.K x):=by
 intro pins s Y H Q I ⟨f,e,q⟩
 obtain⟨f',e1,e2⟩:=h
 rw[e]at e1
 cases e1
 exact pe_glob (v:=.ref f) hg e2 rfl hd pins s Y H Q I q
theorem sF_fn {x:Str}(h:NsOf K mg x):SimF K (tFn K x) (dC (.fn x)):=λF0 H0 F H Y G P Q e w q=>by
 obtain⟨f,e1,_⟩:=h
 exact⟨f,e1,q _ _ F H w (Ext.refl e.ext.fh) ⟨f,rfl,e1⟩⟩
end
section
variable {K:Frag}{X:Cx}
def rAllB (K:Frag):List V->Hp->VK->Prop:=λxs H Q=>∃(l:Addr) (bs:List Bool),xs=[.ref l]/\SqL K H l (bs.map V.bl)/\Q (.bl (bs.all id)) H
theorem bools_get:∀{bs:List Bool} {us:List Value},Vals (bs.map V.bl) us->∀{i:Nat} {v:Value},us[i]?=some v->∃b,bs[i]?=some b/\v = .bool b
 | [],_,.nil,i,v,e=>by simp at e
 |b::bs,u::us,.cons r t,0,v,e=>by
  simp at e
  subst e
  exact⟨b,rfl,r⟩
 |b::bs,u::us,.cons r t,i+1,v,e=>by
  obtain⟨b',h1,h2⟩:=bools_get (bs:=bs) t (i:=i) (by simpa using e)
  exact⟨b',by simpa using h1,h2⟩
theorem call_allB (hc:X.calm=true):CallR X (.builtin "all") (rAllB X.K):=by
 intro pins s Y H xs us Q I r h
 obtain⟨l,bs,rfl,hq,q⟩:=h
 obtain⟨u,rfl,ru⟩:=vals1 r
 cases ru
 obtain⟨its,rv,pl,hz⟩:=I.list hq
 have hl:=pl.isList
 have hn:=rv.length
 rw[length_map]at hn
 have hlt:l<s.heap.objs.size:=by obtain⟨_,e,_⟩:=hl;exact lt_size e
 refine call_all_walk (wpAny_pyIter_list hl ?_)
 refine⟨s.heap.objs.size,[s.heap.objs.size,l],[s.heap.objs.size],its.toArray.size,_,_,λi=>(bs[i]?).getD true,rfl,Walks.list (A:=X.A.in1) (I.ok.hd hc) _ l (ne_of_lt hlt) its.toArray,
  ⟨⟨_,get?_push_size _ rfl,rfl,rfl⟩,hl.push _⟩,λi v s' Q' E' hP hQ=>?_,λh' tk hk=>?_⟩
 .obtain ⟨b,e,rfl⟩:=bools_get rv (i:=i) (v:=v) (by simpa using hP)
  simp only[e,Option.getD_some]at hQ
  exact wpAny_truthy_bool hQ
 .have e:((List.range its.toArray.size).all λi=>(bs[i]?).getD true)=bs.all id:=by
   rw[size_toArray,<- hn];exact LSm.range_all bs
  rw[e]
  exact⟨.bl _,H,I.kept (t':=tk) (LSm.kept_iter hk),rfl,q⟩
theorem reps_bools {F:Hp}:∀{bs:List Bool} {vs:List V},Reps K F (bs.map D.bl) vs->vs=bs.map V.bl
 | [],vs,h=>h
 |b::bs,vs,h=>by
  obtain⟨v,r,rfl,h1,h2⟩:=h
  rw[show v=V.bl b from h1,reps_bools h2];rfl
theorem cS_all:CbS K (rAllB K) allD:=λF H ds vs P Q s rs w q=>by
 unfold allD at w
 split at w
 .obtain ⟨bs,rfl,w⟩:=w
  obtain⟨v,rfl,p,us,rfl,h1,h2⟩:=reps1 rs
  have e:=reps_bools h2
  subst e
  exact⟨p,bs,rfl,h1,q _ _ F H w (Ext.refl s) rfl⟩
 .exact w.elim
end
section
variable {X:Cx}{K:Frag}{tg:Expr}
end
def ibN (i:Int):Nat:=if i=0 then 0 else i.natAbs.log2+1
section
variable {K:Frag}{X:Cx}
def spLawB (K:Frag):Sp:=spL 1 λvs H Q=>∃(a:Addr) (ns:List Int),vs=[.ref a]/\SqL K H a (ns.map V.int)/\ns.length<=63/\(∀m∈ns,ibN m<=1048576)/\∀H',Q (.bl true) H'
theorem weight_ints:∀(ns:List Int),(∀m∈ns,ibN m<=PySem.W.WData.weightAll (ns.map PySem.W.WData.int))
 | [],m,h=>by cases h
 |n :: ns,m,h=>by
  rw[map_cons]
  simp only[PySem.W.WData.weightAll]
  rcases mem_cons.mp h with rfl |h
  .have:ibN m=PySem.W.WData.weight (PySem.W.WData.int m):=by
    unfold ibN
    simp only[PySem.W.WData.weight]
    by_cases z:m=0
    .subst z;rfl
    .simp [z]
   omega
  .have:=weight_ints ns m h
   omega
end
end L2
namespace Att
open PySem PySem.W PySem.Calls PyProof.Rows
theorem attach_callB {l:OpenLaw}{n:Nat}{q:Program}{loose:List Str}{XP:(Str->Option Value)->Heap->Prop}{YP:World->Heap->Prop}{d:DefRec}
  (hn:l.most=some n) (hdf:d.params.defaults=[])
  (call:∀(w:World) (s₀ s₁:Shared) (mg mb:Str->Option Value) (fa:Addr) (o:Obj) (pm cd doc:Value) (a:Addr) (vs:List Value) (ns:List Int),
   Ground q loose [] XP w s₀ mg mb s₁.heap->YP w s₁.heap->
   s₁.heap.get? fa=some o->o.data = .func (docDef d.name d.params d.body d.scope pm cd doc)->s₁.heap.CodeRec cd d.name->mg d.name=some (.ref fa)->
   s₁.heap.get? a=some {cls:=.type "list",data:=.seq vs.toArray}->IntsAre vs ns->ns.length<=n->(∀m∈ns,L2.ibN m<=1048576)->s₁.gens=#[]->
   codeAny (model l.prog w) callerA (.call (.ref fa) ⟨[.ref a],[]⟩) (λr s'=>r = .ok (.ret (.bool true))/\OldK s₁.heap s'.heap/\s'.os=s₁.os/\AllBare s'.gens) s₁):
  WalkO q loose XP YP l.row.toRowW d [] (λf vs=>PySem.call f vs):=by
 intro w s₀ s₁ mg mb δ σ fa o pm cd doc dV kV ho hd hcd hD hmg hg args vals as hpre hlay hrd hwl hlo
 obtain rfl:dV = .none:=Dflts.none hD hdf
 obtain rfl:kV = .none:=Dflts.noKw hD
 obtain⟨a,vs,ns,rfl,rfl,hobj,hints,hlen⟩:=script_of hn hpre hwl
 have hbits:∀m∈ns,L2.ibN m<=1048576:=λm hm=>by
  have h1:=L2.weight_ints ns m hm
  have h2:WData.weight (WData.list (ns.map WData.int))<=2^20:=by
   simp only[WData.layableAll,all_cons,WData.layable,and_eq_true,decide_eq_true_eq]at hlay
   exact hlay.1.2
  simp only[WData.weight]at h2
  omega
 refine enter_call (codeAny_mono (call w s₀ s₁ mg mb fa o pm cd doc a vs ns δ σ ho (fd_plain hd) hcd hmg hobj hints hlen hbits hg) λr s' hq=>?_)
 obtain⟨rfl,h2,h3,h4⟩:=hq
 exact⟨.inl ⟨.bool true,.bool true,[],rfl,λ_=>rfl,.bool true,post_true l _,λ_=>⟨List.Pairwise.nil,λ_ hm=>(nomatch hm)⟩⟩,h2,h3,h4⟩
end Att
namespace L2
open PySem PySem.Spec PyProof.Rows
theorem law_walkB {l:PySem.W.OpenLaw}{k:Nat}{q:Program}{loose:List Str}{XP:(Str->Option Value)->Heap->Prop}{YP:World->Heap->Prop}{d:DefRec}{K:Params->Frag}(hn:l.most=some 63)(hdf:d.params.defaults=[])(hr:Room k callerA)
  (hY:∀(w:World) (h:Heap),YP w h->(K w.params).In h)
  (F:∀(w:World) (mg:Str->Option Value) (fa:Addr) (h:Heap),(K w.params).In h->h.Ns mainGlobals mg->mg d.name=some (.ref fa)->
   ∃fd:FuncData,(∀(s:Shared) (u:Value),BindsTo s fd ⟨[u],[]⟩ [("_law_script",u)])/\∀base:Heap,(K w.params).In base->base.Ns mainGlobals mg->FnOk l.prog w (K w.params) mg base CX0 k fa fd ["_law_script"] (spLawB (K w.params))):
  PySem.W.WalkO q loose XP YP l.row.toRowW d [] (λf vs=>PySem.call f vs):=by
 refine Att.attach_callB hn hdf λw s₀ s₁ mg mb fa o pm cd doc a vs ns δ σ ho hd hcd hmg hobj hints hlen hbits hg=>?_
 have KX:=hY w _ σ
 obtain⟨fd,hb,hF⟩:=F w mg fa _ KX δ.T.g hmg
 exact law_call (CX:=CX0) (sp:=spLawB (K w.params)) KX δ.T.g δ.T.b δ.T.builtins δ.T.nolimit hg hobj hints (le_trans hlen (by decide)) hr hF hb (λH hO hS=>⟨rfl,a,ns,rfl,hS,hlen,hbits,λ_=>rfl⟩) λH e s' z=>z
theorem law_okB {P:Program}{w:World}{K:Frag}{mg:Str->Option Value}{base:Heap}{st:Stmt}{f:Addr}{fd:FuncData}{N:List Str}{k:Nat}(Df:DefAt K mg "law" st f fd)(S:FnScope N ["_law_script"] (defScope st))
  (hbody:∀(cdv:Value) (A:Around) (outer:List Env) (s:Shared) (H:Hp) (E:XK),Room k (A.deeper (envOfC "law" (defScope st) s.heap.objs.size f cdv))->
   ∃t T,PSs (cxOf CX0 P w K mg base N "law" (defScope st) f cdv A outer s H E).nox (defBody st) t/\SimS K t T/\∀ns:List Int,ns.length<=63->(∀m∈ns,ibN m<=1048576)->T {nx:=λ_=>False,rt:=λr=>r = .fz (.bl true)} (startV N [.lst (ns.map .int)])):FnOk P w K mg base CX0 (k+1) f fd ["_law_script"] (spLawB K):=
 Df.fn.ok S (λvs H Q E h=>h.1) λcdv A outer s H vs Q E hr h=>by
  obtain⟨_,a,ns,rfl,hS,hlen,hbits,q⟩:=h
  obtain⟨t,T,h1,h2,h3⟩:=hbody cdv A outer s H E hr
  have hr':Reps K H [.lst (ns.map D.int)] [.ref a]:=⟨_,_,rfl,⟨a,_,rfl,hS,reps_ints.mpr rfl⟩,rfl⟩
  refine⟨t,h1,h2 H H H H (start N [.ref a]) (startV N [.lst (ns.map .int)]) {nx:=λ_=>False,rt:=λr=>r = .fz (.bl true)} _ ⟨_,startV_er (Same.refl H) hr'⟩ ⟨λF' H' Y G e p=>p.elim,λ_ _ _ _ _ z=>z.elim,λ_ _ _ _ _ z=>z.elim,λF' H' r v x n p=>?_⟩ (h3 ns hlen hbits)⟩
  subst p
  obtain⟨A,n1,_⟩:=n
  have:v = .bl true:=n1.2
  subst this
  exact q H'
section
variable {X:Cx}{K:Frag}{mg:Str->Option Value}
end
section
variable {X:Cx}{K:Frag}
end
section
variable {K:Frag}{mg:Str->Option Value}
end
section
variable {X:Cx}{K:Frag}
end
section
variable {X:Cx}{K:Frag}
end
section
variable {X:Cx}{K:Frag}{mg:Str->Option Value}
theorem Inv.turnedL {pins:List (Addr×Obj)}{Y:St}{H:Hp}{s:Shared}{h':Heap}{t':Nat}{L:List Addr}(I:Inv X pins Y H s)(k:∀b o,b∉L->s.heap.get? b=some o->h'.get? b=some o)(f:∀b∈L,FpOk X pins H b):Inv X pins Y H {s with heap:=h',toks:=t'}:=by
 have nn:∀b u,H b=some u->b∉L:=λb u e z=>by
  obtain⟨p0,_⟩:=f b z
  rw[p0]at e;cases e
 refine I.step (g':=s.gens) (d':=s.drawn) (ch:=L) (λb hb=>?_) (λb o _ _ hc e _=>k b o hc e) (λb o _ _ hc e _=>⟨o.slots,k b o hc e⟩) (λ_ _ _ _ n=>n)
  (λb o hc e=>⟨o,k b o hc e⟩) (λ_ _ e=>e) (λ_ _ _ e=>e) (λb ps e=>⟨#[],by rw[e];simp⟩) (λm hm=>?_) (λb u e=>?_) I.bare
 .obtain ⟨p0,p1,p2,p3,p4,p5⟩:=f b hb
  exact⟨p3,p1,p4,p5⟩
 .obtain ⟨o,es,ep,ho,r⟩:=hm
  refine⟨o,es,ep,k _ o (λz=>?_) ho,r⟩
  obtain⟨p0,p1,_⟩:=f _ z
  exact p1 rfl
 .refine (I.hok b u e).stay (λc v hc q=>k c v ?_ q) (λ_ q=>q) λ_ _ q=>q
  rcases hc with z |z
  .rw [z];exact nn b u e
  .exact nn c _ z
end
def dRep1 (Eo:DO)(Eb:DE):DO:=λG P=>Eo G λr=>match r with
 | .nl [.fz d]=>Eb G λy=>match y with
  | .int k=>(0<=k/\k<=1000000)/\P (.nl (List.replicate k.toNat (.fz d)))
  |_=>False
 |_=>False
section
variable {X:Cx}{K:Frag}{mg:Str->Option Value}
theorem Reps.rep {F:Hp}{d:D}{v:V}(h:Rep K F d v):∀n:Nat,Reps K F (List.replicate n d) (List.replicate n v)
 | 0=>rfl
 |n+1=>⟨v,List.replicate n v,rfl,h,Reps.rep h n⟩
theorem sO_rep1 {ta tb:TE}{Eo:DO}{Eb:DE}(ha:SimO K ta Eo)(hb:SimB K tb Eb):SimO K (tOp rRep ta tb) (dRep1 Eo Eb):=λF0 H0 F H Y G P Q e w q=>
 ha F0 H0 F H Y G _ _ e w λr v F1 H1 w1 x1 r1=>by
  try dsimp only at w1
  split at w1
  .rename_i d
   obtain⟨A0,⟨p,vs,B,rfl,rfl,hp,hB⟩,a2,a3⟩:=r1
   obtain⟨v0,r0,B1,C,rfl,rfl,⟨_,rd⟩,hC,_⟩:=hB
   subst hC
   refine hb F0 H0 F1 H1 Y G _ _ (e.on x1) w1 λy u F2 H2 w2 x2 r2=>?_
   try dsimp only at w2
   split at w2
   .rename_i k
    obtain⟨⟨k0,k1⟩,pr⟩:=w2
    have x12:=x1.trans x2
    cases r2
    refine⟨p,k,[v0],rfl,rfl,x2.hh _ _ hp,by omega,by omega,sz_le (by simp;omega),λl l0=>?_⟩
    have ef:(List.replicate k.toNat [v0]).flatten=List.replicate k.toNat v0:=List.flatten_replicate_singleton
    rw[ef]
    have em:(List.replicate k.toNat d).map OV.fz=List.replicate k.toNat (OV.fz d):=map_replicate
    refine q _ _ F2 _ pr (x12.trans (Ext.grow x2.fh (Same.new l0))) ?_
    rw[<- em]
    exact RepN.list (x12.hh.free l0) (x2.fh.free l0) upd_same (Reps.rep (rd.mono x2.ff) _)
   .exact w2.elim
  .exact w1.elim
end
section
variable {prog:Program}{w:World}{A:Around}{E:Value->Shared->Prop}{s:Shared}
end
section
variable {X:Cx}{K:Frag}{tg:Expr}
end
section
variable {X:Cx}{K:Frag}
end
section
variable {prog:Program}{w:World}{A:Around}{E:Value->Shared->Prop}{s:Shared}
end
section
variable {X:Cx}{K:Frag}{mg:Str->Option Value}
end
def dTupB (As:DA):DE:=λG P=>As G λds=>match ds with
 | [.lst xs]=>D.lfs xs=true/\P (.tup xs)
 |_=>False
def dCatB (Ea Eb:DE):DO:=λG P=>Ea G λx=>Eb G λy=>match x,y with
 | .lst xs,.lst ys=>D.lfs xs=true/\D.lfs ys=true/\xs.length+ys.length<=1000000/\P (.nl ((xs++ys).map .fz))
 |_,_=>False
section
variable {X:Cx}{K:Frag}{mg:Str->Option Value}
def TupC (K:Frag)(mg:Str->Option Value)(x:Str)(d:D):Prop:=∃a,mg x=some (.ref a)/\∀F,Rep K F d (.ref a)
def tGl (K:Frag)(d:D):TE:=λ_ H Q=>∀v,(∀F,Rep K F d v)->Q v H
theorem pe_globT {x:Str}{d:D}{pos:Pos}(hg:Gl X x)(hm:TupC X.K X.mg x d)(hd:(x==("__debug__":Str))=false:=by decide):PE X (.Name x pos) (tGl X.K d):=by
 intro pins s Y H Q I h
 obtain⟨a,e,r⟩:=hm
 exact pe_glob (v:=.ref a) hg e rfl hd pins s Y H Q I (h _ r)
theorem sF_gl {d:D}:SimF K (tGl K d) (dC d):=λF0 H0 F H Y G P Q e w q=>λv r=>q d v F H w (Ext.refl e.ext.fh) (r F)
theorem sO_catB {ta tb:TE}{Ea Eb:DE}(ha:SimB K ta Ea)(hb:SimB K tb Eb):SimO K (tOp (rCatS K) ta tb) (dCatB Ea Eb):=λF0 H0 F H Y G P Q e w q=>
 ha F0 H0 F H Y G _ _ e w λx v F1 H1 w1 x1 r1=>hb F0 H0 F1 H1 Y G _ _ (e.on x1) w1 λy u F2 H2 w2 x2 r2=>by
  have x12:=x1.trans x2
  have x3:=frzT_ext x12.fh
  try dsimp only at w2
  split at w2
  .obtain ⟨w3,w4,w5,w6⟩:=w2
   obtain⟨p,vs,rfl,h1,h2⟩:=r1.mono x2.hh
   obtain⟨p',us,rfl,h3,h4⟩:=r2
   have l1:=h2.length
   have l2:=h4.length
   refine⟨p,p',vs,us,rfl,rfl,h1,h3,sz_le (by omega),λl H' l0 sm lk=>?_⟩
   exact q _ _ _ H' w6 (x12.trans (x3.trans (Ext.grow x3.fh sm))) (RepN.list (x12.hh.free l0) (x3.fh.free l0) lk ((Reps.lf x12.fh h2 w3).append (Reps.lf x12.fh h4 w4)))
  .exact w2.elim
end
open PySem PySem.Spec PyProof.Rows PyProof.V PySem.W
section
variable {P:Program}{w:World}{H:Hp}{h:Heap}{a:Addr}{o:HO}
theorem ObjOk.at:∀{o:HO},ObjOk P w H h a o->∃u,h.get? a=some u
 | .lst _,x=>by obtain⟨_,_,_,_,e⟩:=x;exact⟨_,e⟩
 | .tup _,x=>by obtain⟨_,_,_,ob,e,_⟩:=x;exact⟨_,e⟩
 | .dK _,x=>by obtain⟨_,_,_,_,o,_,_,e,_⟩:=x;exact⟨_,e⟩
 | .dT _,x=>by obtain⟨_,_,_,_,o,_,_,e,_⟩:=x;exact⟨_,e⟩
 | .set _ _,x=>by obtain⟨o,_,_,_,e,_⟩:=x;exact⟨_,e⟩
 | .ins _ _ _,x=>by obtain⟨_,_,_,e,_⟩:=x;exact⟨_,e⟩
 | .own _,x=>x
 | .xd _,x=>by obtain⟨_,⟨od,_,_,e,_⟩,_⟩:=x;exact⟨_,e⟩
 | .rng _ _,x=>by obtain⟨_,_,_,e⟩:=x;exact⟨_,e⟩
 | .frz _ _,x=>⟨_,x.1⟩
 | .tbl _,x=>⟨_,x⟩
 | .met _ _,x=>⟨_,x⟩
 | .ext _,x=>x.2.1
end
def CXE (P:Program)(w:World):CXT:=λouter H s E e s'=>∃(a C:Addr) (a0:Value) (B:Heap) (H':Hp),e = .ref a/\E (.ref C) none H'/\Heap.FlyingW B outer a (.ref C) a0 s'.heap/\
 (∀b o,s'.heap.get? b=some o->b∉frs outer->((∃o0,s.heap.get? b=some o0)∨∃u,H' b=some u)->B.get? b=some o)/\Un (frs outer) [] H H' s.heap s'.heap/\HOk P w H' s'.heap/\AllBare s'.gens/\s'.os=s.os/\H' a=none
section
variable {P:Program}{w:World}{K:Frag}{mg:Str->Option Value}{base:Heap}{N:List Str}{qual:Str}{scope:Scope}{f:Addr}{cd:Value}{A:Around}{outer:List Env}{s:Shared}{H:Hp}{E:XK}
theorem raise_leaves {pins:List (Addr×Obj)}{Y:St}{H1:Hp}{s1:Shared}{C a:Addr}{args:List Value}{h2:Heap}(I:Inv (cxOf (CXE P w) P w K mg base N qual scope f cd A outer s H E) pins Y H1 s1)(hx:Heap.MadeExcOf s1.heap h2 a (.ref C) args)
  (hE:E (.ref C) none H1):(cxOf (CXE P w) P w K mg base N qual scope f cd A outer s H E).xe (.ref a) {s1 with heap:=h2}:=by
 have hfr:(A.deeper (envOfC qual scope s.heap.objs.size f cd)).frames=some (envOfC qual scope s.heap.objs.size f cd::outer):=I.ok.frames
 have hfun:s1.heap.FunFrames base (envOfC qual scope s.heap.objs.size f cd::outer):=I.stack
 have hfree:∀b∈frs (envOfC qual scope s.heap.objs.size f cd::outer),H1 b=none:=I.stkFree
 have hbase:Un (frs outer) [] H H1 s.heap s1.heap:=I.base
 have hin:∀e∈(envOfC qual scope s.heap.objs.size f cd::outer),∀b,e.frame=some b->b∈frs (envOfC qual scope s.heap.objs.size f cd::outer):=λe he b hb=>mem_filterMap.mpr ⟨e,he,hb⟩
 have sub:∀b,b∈frs (envOfC qual scope s.heap.objs.size f cd::outer)->b=s.heap.objs.size∨b∈frs outer:=λb hb=>by
  obtain⟨e,he,hf⟩:=mem_filterMap.mp hb
  rcases mem_cons.mp he with rfl |he
  .exact .inl (Option.some.inj hf).symm
  .exact .inr (mem_filterMap.mpr ⟨e,he,hf⟩)
 have sup:∀b,b∈frs outer->b∈frs (envOfC qual scope s.heap.objs.size f cd::outer):=λb hb=>by
  obtain⟨e,he,hf⟩:=mem_filterMap.mp hb
  exact mem_filterMap.mpr ⟨e,mem_cons_of_mem _ he,hf⟩
 have old:∀b o,s.heap.get? b=some o->b∉frs outer->b∉frs (envOfC qual scope s.heap.objs.size f cd::outer):=λb o q hb z=>by
  rcases sub b z with y |y
  .rw [y]at q;exact absurd (lt_size q) (lt_irrefl _)
  .exact hb y
 refine wpAny_leaves_madeW (base:=hideAll s1.heap (frs (envOfC qual scope s.heap.objs.size f cd::outer))) (h:=s1.heap) (L:=s.heap.objs.size) hfr rfl (λb o q=>of_hideAll _ q) (PySem.W.funFrames_hide hfun hin) hx λh' t x1 x2 x3 x4=>?_
 have keepB:∀b o,s1.heap.get? b=some o->b∉frs (envOfC qual scope s.heap.objs.size f cd::outer)->h'.get? b=some o:=λb o q hb=>x1.1 b o (hideAll_get _ q hb)
 have slotF:∀b o,b∈frs (envOfC qual scope s.heap.objs.size f cd::outer)->s1.heap.get? b=some o->∃sl,h'.get? b=some {o with slots:=sl}:=λb o hb q=>by
  obtain⟨_,o',ho',hd⟩:=hfun.mem hb
  rw[q]at ho';cases ho'
  exact x4 b o (hx.keeps b o q) hd
 have hok:HOk P w H1 h':=λb u e=>(I.hok b u e).stay (λc v hc q=>keepB c v q λz=>by
  have:=hfree c z
  rcases hc with y |y
  .rw [y,e]at this;cases this
  .rw [y]at this;cases this) (λ_ q=>q) λ_ _ q=>q
 have hna:H1 a=none:=by
  cases q:H1 a with
  |none=>rfl
  |some u=>
   obtain⟨o,ho⟩:=(I.hok a u q).at
   rw[hx.new]at ho;cases ho
 refine⟨a,C,.ref t,_,H1,rfl,hE,x1,λb o q hb hc=>?_,⟨λb o q n hb hx'=>?_,λb o q n hb hx'=>?_,hbase.free,λb o q hx'=>?_,hbase.tups,hbase.frzs,hbase.tbls⟩,hok,I.bare,I.os,hna⟩
 .have key:∃o1,s1.heap.get? b=some o1/\b∉frs (envOfC qual scope s.heap.objs.size f cd::outer):=by
   rcases hc with⟨o0,q0⟩ | ⟨u,q0⟩
   .obtain ⟨o1,q1⟩:=hbase.there b o0 q0 (by simp)
    exact⟨o1,q1,old b o0 q0 hb⟩
   .obtain ⟨o1,q1⟩:=(I.hok b u q0).at
    exact⟨o1,q1,λz=>by rw[hfree b z]at q0;cases q0⟩
  obtain⟨o1,q1,hn⟩:=key
  have:=keepB b o1 q1 hn
  rw[q]at this;cases this
  exact hideAll_get _ q1 hn
 .exact keepB b o (hbase.keep b o q n hb hx') (old b o q hb)
 .obtain ⟨sl,q1⟩:=hbase.slot b o q n hb hx'
  obtain⟨sl2,q2⟩:=slotF b _ (sup b hb) q1
  exact⟨sl2,q2⟩
 .obtain ⟨o1,q1⟩:=hbase.there b o q hx'
  by_cases hb:b∈frs (envOfC qual scope s.heap.objs.size f cd::outer)
  .obtain ⟨sl,q2⟩:=slotF b o1 hb q1
   exact⟨_,q2⟩
  .exact ⟨_,keepB b o1 q1 hb⟩
def tRaise (tm:TE)(EX:Hp->Prop):TS:=λ_ Y H=>tm Y H λx H1=>[x].length<=sizeLine/\EX H1
theorem ps_raise {x:Str}{C:Addr}{bmB:List Value}{B newId initId:String}{np cpos pos:Pos}{e₀:Expr}{tm:TE}(hg:Gl (cxOf (CXE P w) P w K mg base N qual scope f cd A outer s H E) x)(O:OwnCls x C bmB newId mg base)(FB:ExcBaseFacts B newId initId bmB)
  (hh:(A.deeper (envOfC qual scope s.heap.objs.size f cd)).handled=none) (he:PE (cxOf (CXE P w) P w K mg base N qual scope f cd A outer s H E) e₀ tm) (hd:(x==("__debug__":Str))=false:=by decide)
  (hs:starEach [e₀] (envOfC qual scope s.heap.objs.size f cd)=[(false,eval e₀ (envOfC qual scope s.heap.objs.size f cd))]:=by rfl):
  PS (cxOf (CXE P w) P w K mg base N qual scope f cd A outer s H E) (.Raise (some (.Call (.Name x np) [e₀] [] cpos)) none pos) (tRaise tm λH'=>E (.ref C) none H'):=by
 intro pins s1 Y H1 D I h
 obtain⟨tl,N',nm,q,bs,hdct,sn,sub,ab,col,dd,k0,k1,k2,k3,k5,mN,hC,hN,hni,T⟩:=O.obj
 refine wpAny_Raise_call_subT (C:=C) (nm:=nm) (q:=q) (N:=N') (bs:=bs) (bm:=tl) (hdct:=hdct) (sn:=sn) (sub:=sub) (ab:=ab) (col:=col) (dd:=dd) (k0:=k0) (k1:=k1) (k2:=k2) (k3:=k3) (k5:=k5)
  FB (mN:=mN) (T.hasType FB.hasBase) hh ?_ hni (ld_glob I hg O.bound ⟨rfl,?_⟩ hd)
 .show (backTo cpos (starEach [e₀] (envOfC qual scope s.heap.objs.size f cd))).any (·.1)=false
  rw[hs];rfl
 .have ha:=(pa_cons he pa_nil hs) cpos pins s1 Y H1 (λvs H2=>vs.length<=sizeLine/\E (.ref C) none H2) I h
  change wpAny _ _ (spliced (backTo cpos (starEach [e₀] (envOfC qual scope s.heap.objs.size f cd)))) _ _ s1 at ha
  show wpAny _ _ (evalArgs (.ref C) true (backTo cpos (starEach [e₀] (envOfC qual scope s.heap.objs.size f cd))) []) _ _ s1
  rw[hs]at ha ⊢
  refine Calls.evalArgs_plain (wpAny_mono ha (λus s2 h2=>?_) λ_ _ y=>y)
  obtain⟨vs,H2,I2,r,hl,q2⟩:=h2
  refine⟨rfl,?_,I2.bk _ _ hC,hN.keeps I2.bk,T.keeps I2.bk,λh' e hm=>raise_leaves I2 hm q2⟩
  show us.length<=sizeLine
  rw[<- r.length];exact hl
end
abbrev Cx.hdl (X:Cx)(a:Addr):Cx:={X with A:=X.A.mark (some (.ref a)),calm:=false,xe:=λ_ _=>False}
section
variable {X:Cx}{pins:List (Addr×Obj)}{Y:St}{H:Hp}{s:Shared}
theorem Inv.hdl (I:Inv X pins Y H s)(a:Addr):Inv (X.hdl a) pins Y H s:=
 ⟨⟨I.ok.mod,I.ok.kind,I.ok.glob,I.ok.blt,I.ok.above,I.ok.inj,I.ok.has,I.ok.cab,(λz=>by cases z),I.ok.frames,I.ok.stk,I.ok.exf,I.ok.bs,I.ok.bsz,I.ok.noex,I.ok.exfs,I.ok.funs,I.ok.frf⟩,I.os,I.bare,I.base,I.loc,I.cell,I.free,I.freeC,I.pin,I.hok,I.len⟩
theorem Inv.unhdl {a:Addr}(ok:X.Ok)(I:Inv (X.hdl a) pins Y H s):Inv X pins Y H s:=⟨ok,I.os,I.bare,I.base,I.loc,I.cell,I.free,I.freeC,I.pin,I.hok,I.len⟩
theorem Inv.goes {n:Str}{i:Nat}{m:Str->Option Value}{v:Option Value}{h':Heap}{tk:Nat}(I:Inv X pins Y H s)(hN:X.N.Nodup)(hi:X.N[i]?=some n)(hl:∀(j:Nat) (x:Str) (w:V),X.N[j]?=some x->Y[j]?=some (some w)->Vis X.env.scope x->∃u,RelV w u/\Look X.env s.heap m x u)
  (hn:h'.Ns X.env.locals (λx=>if x=n then v else m x)) (hs:Heap.SameBut X.env.locals s.heap h'):Inv X pins (Y.set i none) H {s with heap:=h',toks:=tk}:=by
 have cne:=I.cne
 have lt:∀{b o},X.s₀.heap.get? b=some o->b≠X.env.locals:=λ{b o} e=>ne_of_lt (lt_of_lt_of_le (lt_size e) I.ok.above)
 refine⟨I.ok,I.os,I.bare,⟨λb o e n hb hx=>?_,λb o e n hb hx=>?_,I.base.free,λb o e hx=>?_,I.base.tups,I.base.frzs,I.base.tbls⟩,⟨_,hn,λj y v' e1 e2 e3=>?_⟩,λy c e=>?_,I.free,I.freeC,λp hp=>?_,λb ob e=>?_,by simpa using I.len⟩
 .exact (hs.2 b (lt e)).trans (I.base.keep b o e n hb hx)
 .obtain ⟨sl,e1⟩:=I.base.slot b o e n hb hx
  exact⟨sl,(hs.2 b (lt e)).trans e1⟩
 .obtain ⟨o',e1⟩:=I.base.there b o e hx
  exact⟨o',(hs.2 b (lt e)).trans e1⟩
 .by_cases hj:j=i
  .subst hj
   have hjl:j<Y.length:=by rw[I.len];exact (List.getElem?_eq_some_iff.mp hi).1
   rw[getElem?_set_self hjl]at e2
   cases e2
  .rw [getElem?_set_ne (Ne.symm hj)]at e2
   obtain⟨u',r',q⟩:=hl j y v' e1 e2 e3
   refine⟨u',r',?_⟩
   rcases q with⟨k,e⟩ | ⟨k,c,e,z⟩
   .refine .inl ⟨k,?_⟩
    have:y≠n:=λe=>hj (nodup_ix hN e1 (e▸hi))
    simp[this,e]
   .exact .inr ⟨k,c,e,z.sameBut hs (cne y c e)⟩
 .obtain ⟨w',z⟩:=I.cell y c e
  exact⟨w',z.sameBut hs (cne y c e)⟩
 .obtain ⟨e,n,ne,nf,d⟩:=I.pin p hp
  exact⟨(hs.2 p.1 ne).trans e,n,ne,nf,d⟩
 .refine (I.hok b ob e).stay (λc w' hc q=>(hs.2 c ?_).trans q) (λ_ q=>q) λ_ _ q=>q
  rintro rfl
  have hf:=I.free
  rcases hc with rfl |hc
  .rw [hf]at e;cases e
  .rw [hf]at hc;cases hc
theorem Inv.caught {H':Hp}{s':Shared}{B:Heap}{a C:Addr}{a0:Value}{h6:Heap}(I:Inv X pins Y H s)(fl:Heap.FlyingW B X.stack a (.ref C) a0 s'.heap)
  (agree:∀b o,s'.heap.get? b=some o->b∉frs X.stack->((∃o0,s.heap.get? b=some o0)∨∃u,H' b=some u)->B.get? b=some o) (un:Un (frs X.stack) [] H H' s.heap s'.heap) (hok:HOk X.prog X.w H' s'.heap) (bare:AllBare s'.gens) (hos:s'.os=s.os) (hna:H' a=none)
  (fl6:Heap.FlyingW B X.stack a (.ref C) a0 h6) (sm:s'.heap.UpToSlots h6):Inv X pins Y (upd H' a (.ext (clsφ a (.ref C)))) {s' with heap:=h6}:=by
 have hfree:∀b∈frs X.stack,H' b=none:=λb hb=>by
  obtain⟨_,o,ho,_⟩:=I.stack.mem hb
  exact un.free b o ho (I.stkFree b hb) (by simp)
 have nonf:∀b∈frs X.stack,∀o,s'.heap.get? b=some o->∀vs,o.data≠.fields vs:=λb hb o q=>by
  obtain⟨_,o',ho',hd⟩:=fl.2.2.1.mem hb
  rw[q]at ho';cases ho';exact hd
 have keepB:∀b o,s'.heap.get? b=some o->b∉frs X.stack->((∃o0,s.heap.get? b=some o0)∨∃u,H' b=some u)->h6.get? b=some o:=λb o q hb hc=>fl6.1 b o (agree b o q hb hc)
 obtain⟨oe,ws,hoe,hoec,hoed,_⟩:=fl6.first
 have hsa:s.heap.get? a=none:=by
  cases q:s.heap.get? a with
  |none=>rfl
  |some o0=>
   obtain⟨o',q'⟩:=un.there a o0 q (by simp)
   by_cases hb:a∈frs X.stack
   .obtain ⟨oe',ws',he',_,hd',_⟩:=fl.first
    exact absurd hd' (nonf a hb oe' he' ws')
   .have:=agree a o' q' hb (.inl ⟨o0,q⟩)
    rw[fl.2.1]at this;cases this
 have ha:∀b u,H' b=some u->b≠a:=λb u e z=>by rw[z,hna]at e;cases e
 refine I.call' (ch:=[]) hos ⟨λb o q n hb hx=>?_,λb o q n hb hx=>?_,λb o q n hx=>?_,λb o q hx=>?_,λb xs e=>?_,λb o u e=>?_,λb ps e=>?_⟩ (λb u e=>?_) bare (λb z=>absurd z (by simp))
 .exact keepB b o (un.keep b o q n hb hx) hb (.inl ⟨o,q⟩)
 .obtain ⟨sl,q1⟩:=un.slot b o q n hb hx
  obtain⟨sl2,q2⟩:=sm b _ q1 (nonf b hb _ q1)
  exact⟨sl2,q2⟩
 .rw [upd_ne λz=>by rw[z,hsa]at q;cases q]
  exact un.free b o q n hx
 .obtain ⟨o',q1⟩:=un.there b o q hx
  by_cases hb:b∈frs X.stack
  .obtain ⟨sl2,q2⟩:=sm b _ q1 (nonf b hb _ q1)
   exact⟨_,q2⟩
  .exact ⟨_,keepB b o' q1 hb (.inl ⟨o,q⟩)⟩
 .have:=un.tups b xs e
  rw[upd_ne (ha b _ this)];exact this
 .have:=un.frzs b o u e
  rw[upd_ne (ha b _ this)];exact this
 .obtain ⟨more,this⟩:=un.tbls b ps e
  exact⟨more,by rw[upd_ne (ha b _ this)];exact this⟩
 .by_cases hb:b=a
  .subst hb
   rw[upd_same]at e
   cases e
   exact⟨⟨oe,hoe,hoec⟩,⟨oe,hoe⟩,λh1 h2 ⟨o,e1,e2⟩ k=>⟨o,k o e1,e2⟩⟩
  .rw [upd_ne hb]at e
   refine (hok b u e).stay (λc v hc q=>?_) (λc q=>by rw[upd_ne (ha c _ q)];exact q) λc xs q=>by rw[upd_ne (ha c _ q)];exact q
   have hcu:∃u,H' c=some u:=by
    rcases hc with rfl |hc
    .exact ⟨_,e⟩
    .exact ⟨_,hc⟩
   exact keepB c v q (λz=>by obtain⟨u,hu⟩:=hcu;rw[hfree c z]at hu;cases hu) (.inr hcu)
end
section
variable {X:Cx}
end
open PySem PySem.Spec PyProof.Rows
abbrev DMo:=List OV->List D->(List OV->Prop)->Prop
def dFld (c:Str)(ns:List Str)(j:Nat)(E:DE):DE:=λG P=>E G λd=>match d with
 | .obj c' ns' ds=>c'=c/\ns'=ns/\∃x,ds[j]?=some x/\P x
 |_=>False
def sFSet (c:Str)(ns:List Str)(i j:Nat)(Eo:DO):DS:=λDe G=>match G[i]? with
 |some (some (.own (.ob o c' ns' ts)))=>c'=c/\ns'=ns/\j<ts.length/\Eo G λr=>De.nx (G.set i (some (.own (.ob o c ns (ts.set j r)))))
 |_=>False
def sFNew (c:Str)(ns:List Str)(i j:Nat)(Eo:DO):DS:=λDe G=>match G[i]? with
 |some (some (.own (.ob o c' ns' ts)))=>c'=c/\ns'=ns/\j=ts.length/\Eo G λr=>De.nx (G.set i (some (.own (.ob o c ns (ts++[r])))))
 |_=>False
def sFAug (c:Str)(ns:List Str)(i j:Nat)(g:Int->Int->Int)(E:DE):DS:=λDe G=>match G[i]? with
 |some (some (.own (.ob o c' ns' ts)))=>c'=c/\ns'=ns/\match ts[j]? with
  |some (.fz (.int x))=>E G λd=>match d with
   | .int y=>De.nx (G.set i (some (.own (.ob o c ns (ts.set j (.fz (.int (g x y))))))))
   |_=>False
  |_=>False
 |_=>False
def sFApp (c:Str)(ns:List Str)(i j:Nat)(Eo:DO):DS:=λDe G=>match G[i]? with
 |some (some (.own (.ob o c' ns' ts)))=>c'=c/\ns'=ns/\match ts[j]? with
  |some (.nl us)=>us.length<1000000/\Eo G λr=>De.nx (G.set i (some (.own (.ob o c ns (ts.set j (.nl (us++[r])))))))
  |_=>False
 |_=>False
def sFPop (c:Str)(ns:List Str)(i j k:Nat):DS:=λDe G=>match G[i]? with
 |some (some (.own (.ob o c' ns' ts)))=>c'=c/\ns'=ns/\∃us d,ts[j]?=some (.nl (us++[.fz d]))/\De.nx ((G.set i (some (.own (.ob o c ns (ts.set j (.nl us)))))).set k (some (.own (.fz d))))
 |_=>False
def sMeth (c:Str)(ns:List Str)(i n:Nat)(sp:DMo)(As:DA):DS:=λDe G=>match G[i]? with
 |some (some (.own (.ob o c' ns' ts)))=>c'=c/\ns'=ns/\As G λds=>ds.length+1=n/\sp ts ds λts'=>De.nx (G.set i (some (.own (.ob o c ns ts'))))
 |_=>False
def sMethPop (c:Str)(ns:List Str)(i j:Nat)(sp:DMo):DS:=λDe G=>match G[i]? with
 |some (some (.own (.ob o c' ns' ts)))=>c'=c/\ns'=ns/\∃us d,ts[j]?=some (.nl (us++[.fz d]))/\sp (ts.set j (.nl us)) [d] λts'=>De.nx (G.set i (some (.own (.ob o c ns ts'))))
 |_=>False
def dMethP (c:Str)(ns:List Str)(n:Nat)(sp:DSp)(E:DE)(As:DA):DO:=λG P=>E G λd=>match d with
 | .obj c' ns' fs=>c'=c/\ns'=ns/\As G λds=>ds.length+1=n/\sp (.obj c ns fs::ds) λr=>r.lf=true/\P r
 |_=>False
def dMake (c:Str)(ns:List Str)(n:Nat)(sp:DMo)(As:DA):DO:=λG P=>As G λds=>ds.length+1=n/\sp [] ds λts=>P (.ob none c ns ts)
def startM (N:List Str)(c:Str)(ns:List Str)(a:Addr)(ts:List OV)(ds:List D):Dst:=some (.own (.ob (some a) c ns ts))::(ds.map (λd=>some (.own (.fz d)))++List.replicate (N.length-(ds.length+1)) none)
section
theorem lk_zip {f:Str}:∀{ns:List Str} {vs:List V} {j:Nat},ns.Nodup->ns[j]?=some f->(ns.zip vs).lookup f=vs[j]?
 | [],_,_,_,h=>by simp at h
 |g::ns,[],j,_,_=>by simp
 |g::ns,v::vs,0,nd,h=>by
  simp at h
  subst h
  simp[List.lookup]
 |g :: ns,v::vs,j+1,nd,h=>by
  have h':ns[j]?=some f:=by simpa using h
  obtain⟨n1,n2⟩:=nodup_cons.mp nd
  have hne:(f==g)=false:=by
   rw[beq_eq_false_iff_ne]
   intro z
   exact n1 (by rw[<- z];exact mem_of_getElem? h')
  simp only[zip_cons_cons,List.lookup,hne,getElem?_cons_succ]
  exact lk_zip n2 h'
theorem lk_zip_none {f:Str}:∀{ns:List Str} {vs:List V},f∉ns->(ns.zip vs).lookup f=none
 | [],_,_=>by simp
 |g::ns,[],_=>by simp
 |g :: ns,v::vs,h=>by
  have hne:(f==g)=false:=by
   rw[beq_eq_false_iff_ne]
   intro z
   exact h (by rw[z];exact mem_cons_self)
  simp only[zip_cons_cons,List.lookup,hne]
  exact lk_zip_none λz=>h (mem_cons_of_mem _ z)
theorem putF_set {f:Str}{u:V}:∀{ns:List Str} {vs:List V} {j:Nat},ns.Nodup->ns[j]?=some f->j<vs.length->putF f u (ns.zip vs)=ns.zip (vs.set j u)
 | [],_,_,_,h,_=>by simp at h
 |g::ns,[],j,_,_,h=>by simp at h
 |g::ns,v::vs,0,nd,h,_=>by
  simp at h
  subst h
  simp[putF]
 |g::ns,v::vs,j+1,nd,h,hl=>by
  have h':ns[j]?=some f:=by simpa using h
  obtain⟨n1,n2⟩:=nodup_cons.mp nd
  have hne:¬ g=f:=λz=>n1 (by rw[z];exact mem_of_getElem? h')
  simp only[zip_cons_cons,putF,if_neg hne,set_cons_succ]
  rw[putF_set n2 h' (by simpa using hl)]
theorem putF_new {f:Str}{u:V}:∀{ns:List Str} {vs:List V},ns.Nodup->ns[vs.length]?=some f->putF f u (ns.zip vs)=ns.zip (vs++[u])
 | [],_,_,h=>by simp at h
 |g::ns,[],nd,h=>by
  simp at h
  subst h
  simp[putF]
 |g::ns,v::vs,nd,h=>by
  have h':ns[vs.length]?=some f:=by simpa using h
  obtain⟨n1,n2⟩:=nodup_cons.mp nd
  have hne:¬ g=f:=λz=>n1 (by rw[z];exact mem_of_getElem? h')
  simp only[zip_cons_cons,putF,if_neg hne,cons_append]
  rw[putF_new n2 h']
theorem nd_mid {A1 B0 A2 B1:List Addr}(h:(A1++(B0++A2)).Nodup)(h1:B1.Nodup)(h2:∀b∈B1,b∈B0∨b∉A1++(B0++A2)):(A1++(B1++A2)).Nodup:=by
 obtain⟨m1,m2,m3⟩:=nodup_append.mp h
 obtain⟨q1,q2,q3⟩:=nodup_append.mp m2
 refine nodup_append.mpr ⟨m1,nodup_append.mpr ⟨h1,q2,λx hx y hy z=>?_⟩,λx hx y hy z=>?_⟩
 .rcases h2 x hx with y' |y'
  .exact q3 x y' y hy z
  .exact y' (by rw[z];simp[hy])
 .rcases mem_append.mp hy with y' |y'
  .rcases h2 y y' with w |w
   .exact m3 x hx y (by simp[w]) z
   .exact w (by rw[<- z];simp[hx])
  .exact m3 x hx y (by simp[y']) z
end
structure ClsV (K:Frag) (c:Str) (ns:List Str):Prop where
 ex:∃C,nsIn K mainGlobals c=some (some (.ref C))/\Cls K C/\(∀f∈ns,NoAttr K C f)
 nd:ns.Nodup
 few:ns.length<1000
structure MetAt (K:Frag) (c m q:Str) (st:Stmt) (f:Addr) (fd:FuncData):Prop where
 fn:Fun K m q st f fd
 cl:∃C,nsIn K mainGlobals c=some (some (.ref C))/\Cls K C/\Meth K C m f
structure CalM (P:Program) (w:World) (K:Frag) (mg:Str->Option Value) (base:Heap) (c m:Str) (k:Nat) (ps:List Str) (sp:Sp):Prop where
 ex:∃C f fd,nsIn K mainGlobals c=some (some (.ref C))/\Cls K C/\Meth K C m f/\FnOk P w K mg base CX0 k f fd ps sp/\Binds K fd ps []
structure MakAt (K:Frag) (mg:Str->Option Value) (c:Str) (f:Addr):Prop where
 cl:∃C,nsIn K mainGlobals c=some (some (.ref C))/\Mk K C f/\mg c=some (.ref C)
structure CalK (P:Program) (w:World) (K:Frag) (mg:Str->Option Value) (base:Heap) (c:Str) (k:Nat) (ps:List Str) (sp:Sp):Prop where
 ex:∃C f fd,nsIn K mainGlobals c=some (some (.ref C))/\Mk K C f/\mg c=some (.ref C)/\FnOk P w K mg base CX0 k f fd ps sp/\Binds K fd ps []
def tMethN (K:Frag)(c m:Str)(sp:Sp)(ta:TE)(t:TA):TE:=λY H Q=>∃C,nsIn K mainGlobals c=some (some (.ref C))/\tMeth C m sp [] E0 ta t Y H Q
def tMakeN (K:Frag)(c:Str)(sp:Sp)(t:TA):TE:=λY H Q=>∃C,nsIn K mainGlobals c=some (some (.ref C))/\tMake C sp [] E0 t Y H Q
section
variable {X:Cx}{c m:Str}{k:Nat}{ps:List Str}{sp:Sp}{o e:Expr}{es:List Expr}{ta:TE}{t:TA}{p pos apos:Pos}
theorem pe_metN {pl:Sem Bool}(C:CalM X.prog X.w X.K X.mg X.base c m k ps sp)(hr:Room k X.A)(he:PE X o ta)(ha:PA X (e::es) t)
  (hst:starEach (e::es) X.env=(false,eval e X.env)::starEach es X.env:=by rfl) (hpl:(backTo pos (starEach es X.env)).any (·.1)=false:=by rfl)
  (ht:eval (.Call (.Attribute o m apos) (e::es) [] pos) X.env=(do
   let ov <- eval o X.env
   standAt apos.atName
   let (f,first) <- holding [ov] (getMethod ov m pl)
   callWith pos f first (backTo pos (starEach (e::es) X.env)) (backToKw pos (keywordEach [] X.env))):=by rfl):
  PE X (.Call (.Attribute o m apos) (e::es) [] pos) (tMethN X.K c m sp ta t):=by
 intro pins s Y H Q I ⟨C',hC',h⟩
 obtain⟨C,f,fd,hC,cl,hm,F,hb⟩:=C.ex
 rw[hC]at hC'
 cases hC'
 exact pe_meth (pl:=pl) he cl hm F hr hb .nil pass0 ha hst hpl ht pins s Y H Q I h
theorem pe_metN0 {pl:Sem Bool}(C:CalM X.prog X.w X.K X.mg X.base c m k ps sp)(hr:Room k X.A)(he:PE X o ta)
  (ht:eval (.Call (.Attribute o m apos) [] [] pos) X.env=(do
   let ov <- eval o X.env
   standAt apos.atName
   let (f,first) <- holding [ov] (getMethod ov m pl)
   callWith pos f first (backTo pos (starEach [] X.env)) (backToKw pos (keywordEach [] X.env))):=by rfl):
  PE X (.Call (.Attribute o m apos) [] [] pos) (tMethN X.K c m sp ta tNil):=by
 intro pins s Y H Q I ⟨C',hC',h⟩
 obtain⟨C,f,fd,hC,cl,hm,F,hb⟩:=C.ex
 rw[hC]at hC'
 cases hC'
 exact pe_meth0 (pl:=pl) he cl hm F hr hb .nil pass0 (ht:=ht) pins s Y H Q I h
theorem pe_makN (C:CalK X.prog X.w X.K X.mg X.base c k ps sp)(hr:Room (k+1) X.A)(hg:Gl X c)(ha:PA X (e::es) t)
  (hdb:(c==("__debug__":Str))=false:=by decide) (he:starEach (e::es) X.env=(false,eval e X.env)::starEach es X.env:=by rfl) (hpl:(backTo pos (starEach es X.env)).any (·.1)=false:=by rfl):
  PE X (.Call (.Name c p) (e::es) [] pos) (tMakeN X.K c sp t):=by
 intro pins s Y H Q I ⟨C',hC',h⟩
 obtain⟨C,f,fd,hC,M,hm,F,hb⟩:=C.ex
 rw[hC]at hC'
 cases hC'
 exact pe_make M F hr hg hm hb .nil pass0 ha hdb he hpl pins s Y H Q I h
end
section
variable {K:Frag}{c f m:Str}{ns:List Str}{i j:Nat}{ta te:TE}{E:DE}{Eo:DO}
theorem sB_fld (CV:ClsV K c ns)(hf:ns[j]?=some f)(h:SimB K ta E):SimB K (tFld K ta f) (dFld c ns j E):=λF0 H0 F H Y G P Q e w q=>h F0 H0 F H Y G _ _ e w λd v F1 H1 w1 x1 r1=>by
 try dsimp only at w1
 split at w1
 .rename_i c' ns' ds
  obtain⟨rfl,rfl,x,hx,w1⟩:=w1
  obtain⟨a,C,dx,vs,rfl,h0,h1,hl,h2⟩:=r1
  obtain⟨C',hC',cl,na⟩:=CV.ex
  rw[h0]at hC'
  cases hC'
  obtain⟨u,hu,ru⟩:=h2.get hx
  exact⟨a,C,dx,_,u,rfl,h1,cl,na f (mem_of_getElem? hf),by rw[lk_zip CV.nd hf];exact hu,q _ _ F1 H1 w1 x1 ru⟩
 .exact w1.elim
theorem ER.obj {F0 H0 F H H':Hp}{Y:St}{G:Dst}{A:Nat->List Addr}(e:ER K F0 H0 F H Y G A){a dx C:Addr}{B B':List Addr}{o:Option Addr}{ts':List OV}{vs':List V}(hv:Y[i]?=some (some (.ref a)))(eA:A i=a::dx::B)
  (h0:nsIn K mainGlobals c=some (some (.ref C))) (ho:∀a',o=some a'->a=a') (h1:H' a=some (.ins C dx (ns.zip vs'))) (h2:H' dx=some (.own a)) (hl:ts'.length<=ns.length) (h3:RepOs K F H' ts' vs' B') (nd:B'.Nodup)
  (hB:∀b∈B',b∈B∨(F b=none/\H0 b=none/\∀j,b∉A j)) (keep:∀b o,b∉A i->H b=some o->H' b=some o):EnvR K F0 H0 F H' Y (G.set i (some (.own (.ob o c ns ts')))):=by
 have hnd:=e.nod i
 rw[eA]at hnd
 obtain⟨n1,n2⟩:=nodup_cons.mp hnd
 obtain⟨n3,n4⟩:=nodup_cons.mp n2
 have inA:∀b,b∈a::dx::B'->b∈A i∨(F b=none/\H0 b=none/\∀j,b∉A j):=λb hb=>by
  rw[eA]
  rcases mem_cons.mp hb with z |z
  .exact .inl (by simp[z])
  .rcases mem_cons.mp z with z |z
   .exact .inl (by simp[z])
   .rcases hB b z with y |y
    .exact .inl (by simp[y])
    .exact .inr y
 have notB:∀b,b∈A i->b∉B->b∉B':=λb hb hn z=>by
  rcases hB b z with y |y
  .exact hn y
  .exact y.2.2 i hb
 refine e.change i hv (t':=.ob o c ns ts') (B:=a::dx::B') ⟨a,C,dx,vs',B',rfl,rfl,h0,ho,h1,h2,hl,h3⟩ ?_ ?_ ?_ keep
 .refine nodup_cons.mpr ⟨λz=>?_,nodup_cons.mpr ⟨λz=>?_,nd⟩⟩
  .rcases mem_cons.mp z with z |z
   .exact n1 (by simp[z])
   .exact notB a (by simp[eA]) (λy=>n1 (by simp[y])) z
  .exact notB dx (by simp[eA]) n3 z
 .intro b hb
  rcases inA b hb with z |z
  .exact ⟨(e.new i b z).1,(e.new i b z).2.1⟩
  .exact ⟨z.1,z.2.1⟩
 .intro j hj b hb z
  rcases inA b hb with y |y
  .exact e.dis j i b hj z y
  .exact y.2.2 j z
theorem sS_fset (CV:ClsV K c ns)(hf:ns[j]?=some f)(h:SimO K te Eo):SimS K (sFld K (tVar i) te f) (sFSet c ns i j Eo):=λF0 H0 F H Y G De En e l w=>by
 obtain⟨A,e⟩:=e
 unfold sFSet at w
 split at w
 .rename_i o c' ns' ts hs
  obtain⟨rfl,rfl,hj,w⟩:=w
  obtain⟨v,hv,a,C,dx,vs,B,rfl,eA,h0,ho,h1,h2,hl,h3⟩:=e.own i _ hs
  obtain⟨C',hC',cl,na⟩:=CV.ex
  rw[h0]at hC'
  cases hC'
  refine h F0 H0 F H Y G _ _ ⟨A,e⟩ w λr u F1 H1 p x1 n=>?_
  obtain⟨C0,c1,c2,c3⟩:=n
  have e1:=e.on x1
  have hlen:=h3.length
  refine⟨_,hv,a,C,dx,_,rfl,x1.hh _ _ h1,cl,na f (mem_of_getElem? hf),?_,?_⟩
  .have:=CV.few
   rw[length_zip];omega
  rw[putF_set CV.nd hf (by omega)]
  have h31:RepOs K F1 H1 ts vs B:=h3.frame x1.ff λb _ xs z=>x1.hh _ _ z
  obtain⟨v0,A1,B0,A2,f1,rfl,f3,f4⟩:=h31.focus (getElem?_eq_getElem hj)
  have hnd:=e.nod i
  rw[eA]at hnd
  obtain⟨n1,n2⟩:=nodup_cons.mp hnd
  obtain⟨n3,n4⟩:=nodup_cons.mp n2
  have hCA':∀j b,b∈C0->b∉A j:=λj b hb z=>by
   obtain⟨_,_,xs,q,_⟩:=e.new j b z
   rw[(c3 b hb).1]at q;cases q
  have hCA:=hCA' i
  have off:∀b,b∈A1++(B0++A2)->b≠a:=λb hb z=>n1 (by rw[<- z];exact mem_cons_of_mem _ hb)
  have sub:∀b,b∈A1++A2->b∈A1++(B0++A2):=λb hb=>by
   rcases mem_append.mp hb with z |z<;>simp[z]
  have f4':=f4 F1 (upd H1 a (.ins C dx (ns'.zip (vs.set j u)))) r u C0 (Same.refl _) (λb hb xs z=>upd_off (off b (sub b hb)) z) (c1.frame (Same.refl _) λb hb xs z=>upd_off (λy=>hCA b hb (by rw[eA,y];simp)) z)
  refine l.nx F1 _ Y _ (e1.obj hv eA h0 ho upd_same (upd_off (λz=>n1 (by rw[<- z];simp)) (x1.hh _ _ h2)) (by rw[length_set];exact hl) f4' (nd_mid n4 c2 λb hb=>.inr λz=>hCA b hb (by rw[eA];simp only[mem_cons];exact .inr (.inr z))) (λb hb=>?_) λb o' hb z=>upd_off (λy=>hb (by rw[eA,y];simp)) z) p
  rcases mem_append.mp hb with z |z
  .exact .inl (by simp[z])
  .rcases mem_append.mp z with z |z
   .exact .inr ⟨(c3 b z).2,e.ext.hh.free (c3 b z).1,λj=>hCA' j b z⟩
   .exact .inl (by simp[z])
 .exact w.elim
theorem sS_fnew (CV:ClsV K c ns)(hf:ns[j]?=some f)(h:SimO K te Eo):SimS K (sFld K (tVar i) te f) (sFNew c ns i j Eo):=λF0 H0 F H Y G De En e l w=>by
 obtain⟨A,e⟩:=e
 unfold sFNew at w
 split at w
 .rename_i o c' ns' ts hs
  obtain⟨rfl,rfl,hj,w⟩:=w
  obtain⟨v,hv,a,C,dx,vs,B,rfl,eA,h0,ho,h1,h2,hl,h3⟩:=e.own i _ hs
  obtain⟨C',hC',cl,na⟩:=CV.ex
  rw[h0]at hC'
  cases hC'
  refine h F0 H0 F H Y G _ _ ⟨A,e⟩ w λr u F1 H1 p x1 n=>?_
  obtain⟨C0,c1,c2,c3⟩:=n
  have e1:=e.on x1
  have hlen:=h3.length
  refine⟨_,hv,a,C,dx,_,rfl,x1.hh _ _ h1,cl,na f (mem_of_getElem? hf),?_,?_⟩
  .have:=CV.few
   rw[length_zip];omega
  have hf':=hf
  rw[hj,hlen]at hf'
  rw[putF_new CV.nd hf']
  have h31:RepOs K F1 H1 ts vs B:=h3.frame x1.ff λb _ xs z=>x1.hh _ _ z
  have hnd:=e.nod i
  rw[eA]at hnd
  obtain⟨n1,n2⟩:=nodup_cons.mp hnd
  obtain⟨n3,n4⟩:=nodup_cons.mp n2
  have hCA':∀j b,b∈C0->b∉A j:=λj b hb z=>by
   obtain⟨_,_,xs,q,_⟩:=e.new j b z
   rw[(c3 b hb).1]at q;cases q
  have hCA:=hCA' i
  have off:∀b,b∈B->b≠a:=λb hb z=>n1 (by rw[<- z];exact mem_cons_of_mem _ hb)
  have hlt:=(List.getElem?_eq_some_iff.mp hf').1
  have f4':RepOs K F1 (upd H1 a (.ins C dx (ns'.zip (vs++[u])))) (ts++[r]) (vs++[u]) (B++C0):=RepOs.append (h31.frame (Same.refl _) λb hb xs z=>upd_off (off b hb) z) (RepOs.one (c1.frame (Same.refl _) λb hb xs z=>upd_off (λy=>hCA b hb (by rw[eA,y];simp)) z))
  refine l.nx F1 _ Y _ (e1.obj hv eA h0 ho upd_same (upd_off (λz=>n1 (by rw[<- z];simp)) (x1.hh _ _ h2)) (by rw[length_append,length_singleton];omega) f4' (nodup_append.mpr ⟨n4,c2,λx hx y hy z=>hCA y hy (by rw[eA,<- z];simp[hx])⟩) (λb hb=>?_) λb o' hb z=>upd_off (λy=>hb (by rw[eA,y];simp)) z) p
  rcases mem_append.mp hb with z |z
  .exact .inl z
  .exact .inr ⟨(c3 b z).2,e.ext.hh.free (c3 b z).1,λj=>hCA' j b z⟩
 .exact w.elim
theorem sS_faug {g:Int->Int->Int}{rd:V->V->Hp->VK->Prop}(CV:ClsV K c ns)(hf:ns[j]?=some f)(hrd:∀x y H Q,Q (.int (g x y)) H->rd (.int x) (.int y) H Q)(h:SimB K te E):SimS K (sFldAug K (tVar i) te rd f) (sFAug c ns i j g E):=λF0 H0 F H Y G De En e l w=>by
 obtain⟨A,e⟩:=e
 unfold sFAug at w
 split at w
 .rename_i o c' ns' ts hs
  obtain⟨rfl,rfl,w⟩:=w
  obtain⟨x,hx,w⟩:∃x,ts[j]?=some (.fz (.int x))/\E G λd=>match d with
   | .int y=>De.nx (G.set i (some (.own (.ob o c' ns' (ts.set j (.fz (.int (g x y))))))))
   |_=>False:=by
   split at w
   .exact ⟨_,by assumption,w⟩
   .exact w.elim
  obtain⟨v,hv,a,C,dx,vs,B,rfl,eA,h0,ho,h1,h2,hl,h3⟩:=e.own i _ hs
  obtain⟨C',hC',cl,na⟩:=CV.ex
  rw[h0]at hC'
  cases hC'
  have hlen:=h3.length
  obtain⟨v0,A1,B0,A2,f1,eB,⟨f3,f3'⟩,f4⟩:=h3.focus hx
  subst f3
  cases (show v0=V.int x from f3')
  refine⟨_,hv,a,C,dx,_,_,rfl,h1,cl,na f (mem_of_getElem? hf),(by rw[lk_zip CV.nd hf];exact f1),?_⟩
  refine h F0 H0 F H Y G _ _ ⟨A,e⟩ w λd u F1 H1 p x1 ru=>?_
  try dsimp only at p
  split at p
  .rename_i y
   cases (show u=V.int y from ru)
   have e1:=e.on x1
   refine hrd _ _ _ _ ⟨dx,_,x1.hh _ _ h1,?_,?_⟩
   .have:=CV.few
    rw[length_zip];omega
   rw[putF_set CV.nd hf (List.getElem?_eq_some_iff.mp f1).1]
   have hnd:=e.nod i
   rw[eA]at hnd
   obtain⟨n1,n2⟩:=nodup_cons.mp hnd
   obtain⟨n3,n4⟩:=nodup_cons.mp n2
   subst eB
   have f4':=f4 F1 (upd H1 a (.ins C dx (ns'.zip (vs.set j (.int (g x y)))))) (.fz (.int (g x y))) (.int (g x y)) [] x1.ff (λb hb xs z=>upd_off (λq=>n1 (by rw[<- q];exact mem_cons_of_mem _ (by simpa using hb))) (x1.hh _ _ z)) ⟨rfl,rfl⟩
   exact l.nx F1 _ Y _ (e1.obj hv eA h0 ho upd_same (upd_off (λz=>n1 (by rw[<- z];simp)) (x1.hh _ _ h2)) (by rw[length_set];exact hl) f4' n4 (λb hb=>.inl hb) λb o' hb z=>upd_off (λy=>hb (by rw[eA,y];simp)) z) p
  .exact p.elim
 .exact w.elim
theorem sS_fapp (CV:ClsV K c ns)(hf:ns[j]?=some f)(h:SimO K te Eo):SimS K (tDrop (tBM K "list" rAppend (tFld K (tVar i) f) (tCons te tNil))) (sFApp c ns i j Eo):=λF0 H0 F H Y G De En e l w=>by
 obtain⟨A,e⟩:=e
 unfold sFApp at w
 split at w
 .rename_i o c' ns' ts hs
  obtain⟨rfl,rfl,w⟩:=w
  obtain⟨us,hx,hus,w⟩:∃us,ts[j]?=some (.nl us)/\us.length<1000000/\Eo G λr=>De.nx (G.set i (some (.own (.ob o c' ns' (ts.set j (.nl (us++[r]))))))):=by
   split at w
   .exact ⟨_,by assumption,w⟩
   .exact w.elim
  obtain⟨v,hv,a,C,dx,vs,B,rfl,eA,h0,ho,h1,h2,hl,h3⟩:=e.own i _ hs
  obtain⟨C',hC',cl,na⟩:=CV.ex
  rw[h0]at hC'
  cases hC'
  obtain⟨v0,A1,B0,A2,f1,rfl,f3,f4⟩:=h3.focus hx
  obtain⟨b0,ws,B1,rfl,rfl,hc,hws⟩:=f3
  refine⟨_,hv,a,C,dx,_,.ref b0,rfl,h1,cl,na f (mem_of_getElem? hf),(by rw[lk_zip CV.nd hf];exact f1),.inl ⟨rfl,_,SqL.of hc⟩,?_⟩
  refine h F0 H0 F H Y G _ _ ⟨A,e⟩ w λr u F1 H1 p x1 n=>?_
  obtain⟨C0,c1,c2,c3⟩:=n
  have e1:=e.on x1
  have hwl:=hws.length
  refine⟨b0,ws,u,rfl,rfl,x1.hh _ _ hc,sz_lt (by omega),?_⟩
  have hnd:=e.nod i
  rw[eA]at hnd
  obtain⟨n1,n2⟩:=nodup_cons.mp hnd
  obtain⟨n3,n4⟩:=nodup_cons.mp n2
  have hCA':∀j b,b∈C0->b∉A j:=λj b hb z=>by
   obtain⟨_,_,xs,q,_⟩:=e.new j b z
   rw[(c3 b hb).1]at q;cases q
  have hbA:b0∈A i:=by rw[eA];simp
  obtain⟨m1,m2,m3⟩:=nodup_append.mp n4
  obtain⟨q1,q2,q3⟩:=nodup_append.mp m2
  obtain⟨s1,s2⟩:=nodup_cons.mp q1
  have off:∀b∈A1++A2,b≠b0:=λb hb z=>by
   subst z
   rcases mem_append.mp hb with y |y
   .exact m3 b y b (by simp) rfl
   .exact q3 b (by simp) b y rfl
  have hab:a≠b0:=λz=>n1 (by rw[z];simp)
  have hdb:dx≠b0:=λz=>n3 (by rw[z];simp)
  have f4':=f4 F1 (upd H1 b0 (.lst (ws++[u]))) (.nl (us++[r])) (.ref b0) (b0::(B1++C0)) x1.ff (λb hb xs z=>upd_off (off b hb) (x1.hh _ _ z))
   ⟨b0,ws++[u],B1++C0,rfl,rfl,upd_same,RepOs.append (hws.frame x1.ff λb hb xs z=>upd_off (λy=>s1 (by rw[<- y];exact hb)) (x1.hh _ _ z)) (RepOs.one (c1.frame (Same.refl _) λb hb xs z=>upd_off (λy=>hCA' i b hb (by rw[y];exact hbA)) z))⟩
  rw[set_self_of f1]at f4'
  refine l.nx F1 _ Y _ (e1.obj hv eA h0 ho (upd_off hab (x1.hh _ _ h1)) (upd_off hdb (x1.hh _ _ h2)) (by rw[length_set];exact hl) f4' (nd_mid n4 ?_ λb hb=>?_) (λb hb=>?_) λb o' hb z=>upd_off (λy=>hb (by rw[y];exact hbA)) z) p
  .refine nodup_cons.mpr ⟨λz=>?_,nodup_append.mpr ⟨s2,c2,λx hx y hy z=>hCA' i y hy (by rw[eA,<- z];simp[hx])⟩⟩
   rcases mem_append.mp z with y |y
   .exact s1 y
   .exact hCA' i b0 y hbA
  .rcases mem_cons.mp hb with y |y
   .exact .inl (by simp[y])
   .rcases mem_append.mp y with y |y
    .exact .inl (by simp[y])
    .exact .inr λz=>hCA' i b y (by rw[eA];simp only[mem_cons];exact .inr (.inr z))
  .simp only[mem_append,mem_cons]at hb
   rcases hb with z | (z |z |z) |z
   .exact .inl (by simp[z])
   .exact .inl (by simp[z])
   .exact .inl (by simp[z])
   .exact .inr ⟨(c3 b z).2,e.ext.hh.free (c3 b z).1,λj=>hCA' j b z⟩
   .exact .inl (by simp[z])
 .exact w.elim
theorem ER.fpop {F0 H0 F H:Hp}{Y:St}{G:Dst}{A:Nat->List Addr}{o:Option Addr}{ts us:List OV}{d:D}(e:ER K F0 H0 F H Y G A)(CV:ClsV K c ns)(hf:ns[j]?=some f)(hs:G[i]?=some (some (.own (.ob o c ns ts))))(hx:ts[j]?=some (.nl (us++[.fz d]))):
  ∃a b0 ws y C dx fs,Y[i]?=some (some (.ref a))/\H a=some (.ins C dx fs)/\nsIn K mainGlobals c=some (some (.ref C))/\Cls K C/\NoAttr K C f/\fs.lookup f=some (.ref b0)/\H b0=some (.lst ws)/\ws[ws.length-1]?=some y/\Rep K F d y/\(upd H b0 (.lst ws.dropLast)) a=some (.ins C dx fs)/\
   EnvR K F0 H0 F (upd H b0 (.lst ws.dropLast)) Y (G.set i (some (.own (.ob o c ns (ts.set j (.nl us)))))):=by
 obtain⟨v,hv,a,C,dx,vs,B,rfl,eA,h0,ho,h1,h2,hl,h3⟩:=e.own i _ hs
 obtain⟨C',hC',cl,na⟩:=CV.ex
 rw[h0]at hC'
 cases hC'
 obtain⟨v0,A1,B0,A2,f1,rfl,f3,f4⟩:=h3.focus hx
 obtain⟨b0,ws,B1,rfl,rfl,hc,hws⟩:=f3
 obtain⟨ws1,y,rfl,B2,hw1,hwy,eB⟩:∃ws1 y,ws=ws1++[y]/\∃B2,RepOs K F H us ws1 B2/\Rep K F d y/\B1=B2:=by
  clear f4 h3 hx eA hc f1
  induction us generalizing ws B1 with
  |nil=>
   obtain⟨v,r,B,C,rfl,rfl,g1,g2,g3⟩:=hws
   subst g2 g3
   exact⟨[],v,rfl,[],⟨rfl,rfl⟩,g1.2,by rw[g1.1];rfl⟩
  |cons t us ih=>
   obtain⟨v,r,B,C,rfl,rfl,g1,g2⟩:=hws
   obtain⟨ws1,y,rfl,B2,k1,k2,rfl⟩:=ih _ _ g2
   exact⟨v::ws1,y,rfl,B++C,⟨v,ws1,B,C,rfl,rfl,g1,k1⟩,k2,rfl⟩
 subst eB
 have hnd:=e.nod i
 rw[eA]at hnd
 obtain⟨n1,n2⟩:=nodup_cons.mp hnd
 obtain⟨n3,n4⟩:=nodup_cons.mp n2
 have hbA:b0∈A i:=by rw[eA];simp
 obtain⟨m1,m2,m3⟩:=nodup_append.mp n4
 obtain⟨q1,q2,q3⟩:=nodup_append.mp m2
 obtain⟨s1,s2⟩:=nodup_cons.mp q1
 have off:∀b∈A1++A2,b≠b0:=λb hb z=>by
  subst z
  rcases mem_append.mp hb with y |y
  .exact m3 b y b (by simp) rfl
  .exact q3 b (by simp) b y rfl
 have hab:a≠b0:=λz=>n1 (by rw[z];simp)
 have hdb:dx≠b0:=λz=>n3 (by rw[z];simp)
 have edl:(ws1++[y]).dropLast=ws1:=by simp
 have f4':=f4 F (upd H b0 (.lst (ws1++[y]).dropLast)) (.nl us) (.ref b0) (b0::B1) (Same.refl _) (λb hb xs z=>upd_off (off b hb) z) ⟨b0,(ws1++[y]).dropLast,B1,rfl,rfl,upd_same,by
  rw[edl]
  exact hw1.frame (Same.refl _) λb hb xs z=>upd_off (λy=>s1 (by rw[<- y];exact hb)) z⟩
 rw[set_self_of f1]at f4'
 refine⟨a,b0,ws1++[y],y,C,dx,_,hv,h1,h0,cl,na f (mem_of_getElem? hf),(by rw[lk_zip CV.nd hf];exact f1),hc,by simp,hwy,upd_off hab h1,?_⟩
 exact e.obj hv eA h0 ho (upd_off hab h1) (upd_off hdb h2) (by rw[length_set];exact hl) f4' n4 (λb hb=>.inl hb) λb o' hb z=>upd_off (λy=>hb (by rw[y];exact hbA)) z
theorem sS_fpop {k:Nat}(CV:ClsV K c ns)(hf:ns[j]?=some f):SimS K (tAsg (tBM0 K "list" rPop (tFld K (tVar i) f)) (gName k)) (sFPop c ns i j k):=λF0 H0 F H Y G De En e l w=>by
 obtain⟨A,e⟩:=e
 unfold sFPop at w
 split at w
 .rename_i o c' ns' ts hs
  obtain⟨rfl,rfl,us,d,hx,w⟩:=w
  obtain⟨a,b0,ws,y,C,dx,fs,hv,h1,h0,cl,na,hl,hc,hy,ry,_,e'⟩:=e.fpop CV hf hs hx
  refine⟨_,hv,a,C,dx,fs,.ref b0,rfl,h1,cl,na,hl,.inl ⟨rfl,_,SqL.of hc⟩,b0,ws,y,rfl,rfl,hc,hy,?_⟩
  exact l.nx F _ _ _ (e'.put (Ext.refl e'.ext.fh) k (.fz ry)) w
 .exact w.elim
def spM (K:Frag)(n:Nat)(c:Str)(ns:List Str)(sp:DMo):Sp:=spL n λvs H Q=>∃F a C dx ts vs0 B rest ds P,vs=V.ref a::rest/\nsIn K mainGlobals c=some (some (.ref C))/\Same F H/\H a=some (.ins C dx (ns.zip vs0))/\H dx=some (.own a)/\ts.length<=ns.length/\RepOs K F H ts vs0 B/\
 (a::dx::B).Nodup/\(∀b∈a::dx::B,F b=none)/\Reps K F ds rest/\sp ts ds P/\
 ∀ts' F' H' dx' vs' B',P ts'->Same F F'->Same F' H'->(∀b o,b∉a::dx::B->H b=some o->H' b=some o)->(∀b o,F b=none->H b=some o->imm o=false->b∉a::dx::B->F' b=none)->H' a=some (.ins C dx' (ns.zip vs'))->H' dx'=some (.own a)->ts'.length<=ns.length->RepOs K F' H' ts' vs' B'->
  (a::dx'::B').Nodup->(∀b∈a::dx'::B',F' b=none/\(b∈a::dx::B∨H b=none))->Q .non H'
theorem spM_of {F0 H0 F H:Hp}{Y:St}{G:Dst}{De:DEnds}{En:Ends}{n:Nat}{sp:DMo}{o:Option Addr}{ts:List OV}{ds:List D}{us:List V}{p:Addr}(e:EnvR K F0 H0 F H Y G)(hs:G[i]?=some (some (.own (.ob o c ns ts))))(hσ:Y[i]?=some (some (.ref p)))(l:Lk K F0 H0 De En)(hn:ds.length+1=n)
  (r:Reps K F ds us) (hsp:sp ts ds λts'=>De.nx (G.set i (some (.own (.ob o c ns ts'))))):spM K n c ns sp (.ref p::us) H (λ_ H2=>En.nx Y H2) E0:=by
 obtain⟨A,e⟩:=e
 obtain⟨v,hv,a,C,dx,vs,B,rfl,eA,h0,ho,h1,h2,hl,h3⟩:=e.own i _ hs
 rw[hσ]at hv
 cases hv
 have hnd:=e.nod i
 rw[eA]at hnd
 have hlt:i<G.length:=(List.getElem?_eq_some_iff.mp hs).1
 refine⟨by rw[length_cons,<- r.length];exact hn,F,p,C,dx,ts,vs,B,us,ds,_,rfl,h0,e.ext.fh,h1,h2,hl,h3,hnd,λb hb=>(e.new i b (by rw[eA];exact hb)).1,r,hsp,?_⟩
 intro ts' F' H' dx' vs' B' pt sF sH keep nofz hp' hd' hl' hB' nd' nw'
 refine l.nx F' H' Y _ ⟨λj=>if j=i then p::dx'::B' else A j,?_⟩ pt
 refine⟨by simp[e.len],⟨e.ext.ff.trans sF,λb o h=>?_,sH,λb o h1 h2 h3=>?_⟩,λj t hj=>?_,λj d hj=>?_,λj=>?_,λj k b hjk h1 h2=>?_,λj b hb=>?_⟩
 .exact keep b o (λz=>by rw[(e.new i b (by rw[eA];exact z)).2.1]at h;cases h) (e.ext.hh _ _ h)
 .exact nofz b o (e.ext.no b o h1 h2 h3) (e.ext.hh _ _ h2) h3 (λz=>by rw[(e.new i b (by rw[eA];exact z)).2.1]at h2;cases h2)
 .try dsimp only
  by_cases z:j=i
  .subst z
   rw[if_pos rfl]
   rw[getElem?_set_self hlt]at hj
   cases hj
   exact⟨_,hσ,p,C,dx',vs',B',rfl,rfl,h0,ho,hp',hd',hl',hB'⟩
  .rw [if_neg z]
   rw[getElem?_set_ne (Ne.symm z)]at hj
   obtain⟨u,h1,h2⟩:=e.own j t hj
   exact⟨u,h1,h2.frame sF λb hb xs q=>keep b _ (λy=>e.dis j i b z hb (by rw[eA];exact y)) q⟩
 .by_cases z:j=i
  .subst z
   rw[getElem?_set_self hlt]at hj
   cases hj
  .rw [getElem?_set_ne (Ne.symm z)]at hj
   exact e.bw j d hj
 .try dsimp only
  split
  .exact nd'
  .exact e.nod j
 .try dsimp only at h1 h2
  have key:∀k,k≠i->b∈p::dx'::B'->b∈A k->False:=λk hk z1 z2=>by
   rcases (nw' b z1).2 with y |y
   .exact e.dis k i b hk z2 (by rw[eA];exact y)
   .obtain ⟨_,_,xs,q,_⟩:=e.new k b z2
    rw[y]at q;cases q
  split at h1
  .split at h2
   .omega
   .rename_i z1 z2
    exact key k z2 h1 h2
  .split at h2
   .rename_i z1 z2
    exact key j z1 h2 h1
   .exact e.dis j k b hjk h1 h2
 .try dsimp only at hb
  split at hb
  .have hh:H0 b=none:=by
    rcases (nw' b hb).2 with y |y
    .exact (e.new i b (by rw[eA];exact y)).2.1
    .exact e.ext.hh.free y
   refine⟨(nw' b hb).1,hh,?_⟩
   rcases mem_cons.mp hb with y |y
   .rw [y];exact⟨_,hp',rfl⟩
   .rcases mem_cons.mp y with y |y
    .rw [y];exact⟨_,hd',rfl⟩
    .exact hB'.isl b y
  .rename_i z
   obtain⟨h1,h2,xs,h3,himm⟩:=e.new j b hb
   have hni:b∉p::dx::B:=λy=>e.dis j i b z hb (by rw[eA];exact y)
   exact⟨nofz b _ h1 h3 himm hni,h2,xs,keep b _ hni h3,himm⟩
theorem sS_meth {n:Nat}{sp:DMo}{a:TA}{As:DA}(CV:ClsV K c ns)(hm:m∉ns)(ha:SimAF K a As):SimS K (tDrop (tMethN K c m (spM K n c ns sp) (tVar i) a)) (sMeth c ns i n sp As):=λF0 H0 F H Y G De En e l w=>by
 unfold sMeth at w
 split at w
 .rename_i o c' ns' ts hs
  obtain⟨rfl,rfl,w⟩:=w
  obtain⟨A,e⟩:=e
  obtain⟨v,hv,p,C,dx,vs,B,rfl,eA,h0,ho,h1,h2,hl,h3⟩:=e.own i _ hs
  refine⟨C,h0,_,hv,p,dx,_,rfl,h1,lk_zip_none hm,?_⟩
  refine ha F0 H0 F H Y G _ _ ⟨A,e⟩ w λds us F1 H1 w1 x1 r1=>?_
  show spM K n c' ns' sp (V.ref p::(us++[])) H1 (λ_ H2=>En.nx Y H2) E0
  rw[append_nil]
  exact spM_of ⟨A,e.on x1⟩ hs hv l w1.1 r1 w1.2
 .exact w.elim
theorem sS_methPop {sp:DMo}(CV:ClsV K c ns)(hf:ns[j]?=some f)(hm:m∉ns):SimS K (tDrop (tMethN K c m (spM K 2 c ns sp) (tVar i) (tCons (tBM0 K "list" rPop (tFld K (tVar i) f)) tNil))) (sMethPop c ns i j sp):=λF0 H0 F H Y G De En e l w=>by
 unfold sMethPop at w
 split at w
 .rename_i o c' ns' ts hs
  obtain⟨rfl,rfl,us,d,hx,w⟩:=w
  obtain⟨A,e⟩:=e
  obtain⟨v,hv',p,C',dx',vs,B,rfl,eA,h0',ho,h1',h2',hl',h3⟩:=e.own i _ hs
  obtain⟨a,b0,ws,y,C,dx,fs,hv,h1,h0,cl,na,hl,hc,hy,ry,h1b,e'⟩:=e.fpop CV hf hs hx
  rw[hv']at hv
  cases hv
  refine⟨C',h0',_,hv',p,dx',_,rfl,h1',lk_zip_none hm,?_⟩
  refine⟨_,hv',p,C,dx,fs,.ref b0,rfl,h1,cl,na,hl,.inl ⟨rfl,_,SqL.of hc⟩,b0,ws,y,rfl,rfl,hc,hy,?_⟩
  show spM K 2 c' ns' sp (V.ref p::([y]++[])) _ (λ_ H2=>En.nx Y H2) E0
  have hlt:i<G.length:=(List.getElem?_eq_some_iff.mp hs).1
  exact spM_of (G:=G.set i (some (.own (.ob o c' ns' (ts.set j (.nl us)))))) e' (getElem?_set_self hlt) hv' l (ds:=[d]) rfl (show Reps K F [d] [y] from⟨y,[],rfl,ry,rfl⟩) (by simpa only[List.set_set] using w)
 .exact w.elim
theorem sO_methP {n:Nat}{sp:DSp}{a:TA}{As:DA}(CV:ClsV K c ns)(hm:m∉ns)(h:SimB K te E)(ha:SimAB K a As):SimO K (tMethN K c m (spV K n sp) te a) (dMethP c ns n sp E As):=λF0 H0 F H Y G P Q e w q=>by
 have key:(∃C,nsIn K mainGlobals c=some (some (.ref C)))->tMethN K c m (spV K n sp) te a Y H Q:=λ⟨C,hC⟩=>by
  refine⟨C,hC,?_⟩
  refine h F0 H0 F H Y G _ _ e w λd v F1 H1 w1 x1 r1=>?_
  try dsimp only at w1
  split at w1
  .rename_i c' ns' fs
   obtain⟨rfl,rfl,w1⟩:=w1
   have r1':=r1
   obtain⟨p,C',dx,vs,rfl,h0,h1,hl,h2⟩:=r1
   rw[hC]at h0
   cases h0
   refine⟨p,dx,_,rfl,h1,lk_zip_none hm,?_⟩
   refine ha F0 H0 F1 H1 Y G _ _ (e.on x1) w1 λds us F2 H2 w2 x2 r2=>?_
   show spV K n sp (V.ref p::(us++[])) H2 Q E0
   rw[append_nil]
   have x12:=x1.trans x2
   refine⟨by rw[length_cons,<- r2.length];exact w2.1,H2,.obj c' ns' fs::ds,_,Same.refl _,⟨.ref p,us,rfl,r1'.mono x2.hh,r2⟩,w2.2,λr v F' H' p x' r'=>?_⟩
   have s1:Same F2 F':=x2.fh.trans x'.ff
   have x3:=frzT_ext s1
   obtain⟨A,a1,a2,a3⟩:=r'
   refine q r v (frzT F2 F') H' p.2 (x12.trans ⟨x3.ff,x'.hh,x3.fh.trans x'.fh,λb o z1 z2 z3=>?_⟩) ⟨A,a1.lf s1 p.1,a2,λb hb=>⟨x12.hh.free (a3 b hb).1,x3.fh.free (a3 b hb).2⟩⟩
   exact x3.no b o z1 (x'.ff _ _ z2) z3
  .exact w1.elim
 exact key ⟨_,CV.ex.choose_spec.1⟩
theorem sO_make {n:Nat}{sp:DMo}{a:TA}{As:DA}(CV:ClsV K c ns)(ha:SimAF K a As):SimO K (tMakeN K c (spM K n c ns sp) a) (dMake c ns n sp As):=λF0 H0 F H Y G P Q e w q=>by
 obtain⟨C,hC,_⟩:=CV.ex
 refine⟨C,hC,ha F0 H0 F H Y G _ _ e w λds us F1 H1 w1 x1 r1=>λx dx hx hd hne=>?_⟩
 show spM K n c ns sp (V.ref x::(us++[])) _ _ E0
 rw[append_nil]
 have s0:Same H1 (upd (upd H1 dx (.own x)) x (.ins C dx [])):=λb o z=>upd_off (λy=>by rw[y,hx]at z;cases z) (upd_off (λy=>by rw[y,hd]at z;cases z) z)
 refine⟨by rw[length_cons,<- r1.length];exact w1.1,F1,x,C,dx,[],[],[],us,ds,_,rfl,hC,x1.fh.trans s0,(by rw[List.zip_nil_right];exact upd_same),upd_off hne upd_same,zero_le _,⟨rfl,rfl⟩,?_,λb hb=>?_,r1,w1.2,?_⟩
 .simp only[nodup_cons,mem_cons,not_mem_nil,or_false,not_false_eq_true,nodup_nil,and_true]
  exact λz=>hne z.symm
 .rcases mem_cons.mp hb with z |z
  .rw [z];exact x1.fh.free hx
  .rw [mem_singleton.mp z];exact x1.fh.free hd
 intro ts' F' H' dx' vs' B' pt sF sH keep nofz hp' hd' hl' hB' nd' nw'
 have s1:∀b o,H1 b=some o->b∉x::dx::([]:List Addr):=λb o z y=>by
  rcases mem_cons.mp y with y |y
  .rw [y,hx]at z;cases z
  .rw [mem_singleton.mp y,hd]at z;cases z
 refine⟨rfl,q _ _ F' H' pt (x1.trans ⟨sF,λb o z=>keep b o (s1 b o z) (s0 _ _ z),sH,λb o z1 z2 z3=>nofz b o z1 (s0 _ _ z2) z3 (s1 b o z2)⟩) ⟨x::dx'::B',⟨x,C,dx',vs',B',rfl,rfl,hC,(λ_ z=>by cases z),hp',hd',hl',hB'⟩,nd',λb hb=>⟨?_,(nw' b hb).1⟩⟩⟩
 rcases (nw' b hb).2 with y |y
 .rcases mem_cons.mp y with y |y
  .rw [y];exact x1.hh.free hx
  .rw [mem_singleton.mp y];exact x1.hh.free hd
 .exact x1.hh.free (s0.free y)
end
section
variable {P:Program}{w:World}{K:Frag}{mg:Str->Option Value}{base:Heap}{c m q:Str}{ns:List Str}{st:Stmt}{f:Addr}{fd:FuncData}{N ps:List Str}{k n:Nat}
theorem okM_of {sp:DMo}(Fn:Fun K m q st f fd)(S:FnScope N ps (defScope st))(hn:n=ps.length)
  (hbody:∀(cdv:Value) (A:Around) (outer:List Env) (s:Shared) (H:Hp) (E:XK),Room k (A.deeper (envOfC q (defScope st) s.heap.objs.size f cdv))->
   ∃t T,PSs (cxOf CX0 P w K mg base N q (defScope st) f cdv A outer s H E).nox (defBody st) t/\SimS K t T/\∀(a:Addr) ts ds Pr,sp ts ds Pr->T {nx:=λG=>∃ts',G[0]?=some (some (.own (.ob (some a) c ns ts')))/\Pr ts',rt:=λ_=>False} (startM N c ns a ts ds)):
  FnOk P w K mg base CX0 (k+1) f fd ps (spM K n c ns sp):=
 Fn.ok S (λvs H Q E h=>by rw[<- hn];exact h.1) λcdv A outer s H vs Q E hr h=>by
  obtain⟨_,F,a,C,dx,ts,vs0,B,rest,ds,Pr,rfl,hC,hs,ha,hd,hlen,hB,hnd,hnf,hr',hsp,hq⟩:=h
  obtain⟨t,T,h1,h2,h3⟩:=hbody cdv A outer s H E hr
  have hl:=hr'.length
  have er : ER K F (λb=>if b∈a::dx::B then none else H b) F H (start N (V.ref a::rest)) (startM N c ns a ts ds) (λj=>if j=0 then a::dx::B else []):=by
   refine⟨by simp[start,startM,hl],⟨Same.refl _,λb o z=>?_,hs,λ_ _ z _ _=>z⟩,λi t hi=>?_,λi d hi=>?_,λj=>?_,λj k b hjk y1 y2=>?_,λj b hb=>?_⟩
   .try dsimp only at z
    split at z
    .cases z
    .exact z
   .unfold startM at hi
    cases i with
    |zero=>
     simp at hi
     subst hi
     exact⟨.ref a,rfl,a,C,dx,vs0,B,rfl,rfl,hC,(λ_ z=>Option.some.inj z),ha,hd,hlen,hB⟩
    |succ i=>
     rw[getElem?_cons_succ]at hi
     try dsimp only
     rw[if_neg (by omega)]
     by_cases z:i<ds.length
     .rw [getElem?_append_left (by simpa using z),getElem?_map,getElem?_eq_getElem z]at hi
      simp at hi
      subst hi
      obtain⟨v,g1,g2⟩:=hr'.get (getElem?_eq_getElem z)
      refine⟨v,?_,rfl,g2⟩
      unfold start
      rw[map_cons,cons_append,getElem?_cons_succ,getElem?_append_left (by simp;omega),getElem?_map,g1]
      rfl
     .rw [getElem?_append_right (by simpa using z)]at hi
      have:=mem_of_getElem? hi
      rw[mem_replicate]at this
      cases this.2
   .unfold startM at hi
    cases i with
    |zero=>simp at hi
    |succ i=>
     rw[getElem?_cons_succ]at hi
     by_cases z:i<ds.length
     .rw [getElem?_append_left (by simpa using z),getElem?_map,getElem?_eq_getElem z]at hi
      simp at hi
     .rw [getElem?_append_right (by simpa using z)]at hi
      have:=mem_of_getElem? hi
      rw[mem_replicate]at this
      cases this.2
   .try dsimp only
    split
    .exact hnd
    .exact nodup_nil
   .try dsimp only at y1 y2
    split at y1
    .split at y2
     .omega
     .cases y2
    .cases y1
   .try dsimp only at hb
    split at hb
    .refine ⟨hnf b hb,if_pos hb,?_⟩
     rcases mem_cons.mp hb with y |y
     .rw [y];exact⟨_,ha,rfl⟩
     .rcases mem_cons.mp y with y |y
      .rw [y];exact⟨_,hd,rfl⟩
      .exact hB.isl b y
    .cases hb
  refine⟨t,h1,h2 F _ F H (start N (V.ref a::rest)) (startM N c ns a ts ds) {nx:=λG=>∃ts',G[0]?=some (some (.own (.ob (some a) c ns ts')))/\Pr ts',rt:=λ_=>False} _ ⟨_,er⟩ ⟨λF' H' Y G e p=>?_,λ_ _ _ _ _ z=>z.elim,λ_ _ _ _ _ z=>z.elim,λ_ _ _ _ _ _ z=>z.elim⟩ (h3 a ts ds Pr hsp)⟩
  obtain⟨A',e⟩:=e
  obtain⟨ts',h0,hp⟩:=p
  obtain⟨v,hv,a',C',dx',vs',B',rfl,eA,g0,go,g1,g2,g3,g4⟩:=e.own 0 _ h0
  obtain rfl:=go a rfl
  rw[hC]at g0
  cases g0
  have hn':=e.nod 0
  rw[eA]at hn'
  refine hq ts' F' H' dx' vs' B' hp e.ext.ff e.ext.fh (λb o y z=>?_) (λb o y1 y2 y3 y4=>?_) g1 g2 g3 g4 hn' (λb hb=>?_)
  .exact e.ext.hh b o (by rw[if_neg y];exact z)
  .exact e.ext.no b o y1 (by rw[if_neg y4];exact y2) y3
  .obtain ⟨z1,z2,_⟩:=e.new 0 b (by rw[eA];exact hb)
   refine⟨z1,?_⟩
   by_cases q:b∈a'::dx::B
   .exact .inl q
   .rw [if_neg q]at z2;exact .inr z2
theorem CalM.of {sp:DMo}(Df:MetAt K c m q st f fd)(S:FnScope N ps (defScope st))
  (hb:∀(kV doc pm:Value) (an:Option Addr) (cdv ct:Value) (us:List Value),us.length=ps.length->bindArgs (fnOf m q (defArgs st) (defBody st) (defScope st) .none kV doc pm an cdv ct) ⟨us,[]⟩=pure (ps.zip us)) (hn:n=ps.length)
  (hbody:∀(cdv:Value) (A:Around) (outer:List Env) (s:Shared) (H:Hp) (E:XK),Room k (A.deeper (envOfC q (defScope st) s.heap.objs.size f cdv))->
   ∃t T,PSs (cxOf CX0 P w K mg base N q (defScope st) f cdv A outer s H E).nox (defBody st) t/\SimS K t T/\∀(a:Addr) ts ds Pr,sp ts ds Pr->T {nx:=λG=>∃ts',G[0]?=some (some (.own (.ob (some a) c ns ts')))/\Pr ts',rt:=λ_=>False} (startM N c ns a ts ds)):
  CalM P w K mg base c m (k+1) ps (spM K n c ns sp):=by
 obtain⟨C,hC,cl,hm⟩:=Df.cl
 exact⟨C,f,fd,hC,cl,hm,okM_of Df.fn S hn hbody,Df.fn.binds hb⟩
theorem CalK.of {sp:DMo}(Df:Fun K m q st f fd)(Mf:MakAt K mg c f)(S:FnScope N ps (defScope st))
  (hb:∀(kV doc pm:Value) (an:Option Addr) (cdv ct:Value) (us:List Value),us.length=ps.length->bindArgs (fnOf m q (defArgs st) (defBody st) (defScope st) .none kV doc pm an cdv ct) ⟨us,[]⟩=pure (ps.zip us)) (hn:n=ps.length)
  (hbody:∀(cdv:Value) (A:Around) (outer:List Env) (s:Shared) (H:Hp) (E:XK),Room k (A.deeper (envOfC q (defScope st) s.heap.objs.size f cdv))->
   ∃t T,PSs (cxOf CX0 P w K mg base N q (defScope st) f cdv A outer s H E).nox (defBody st) t/\SimS K t T/\∀(a:Addr) ts ds Pr,sp ts ds Pr->T {nx:=λG=>∃ts',G[0]?=some (some (.own (.ob (some a) c ns ts')))/\Pr ts',rt:=λ_=>False} (startM N c ns a ts ds)):
  CalK P w K mg base c (k+1) ps (spM K n c ns sp):=by
 obtain⟨C,hC,M,hm⟩:=Mf.cl
 exact⟨C,f,fd,hC,M,hm,okM_of Df S hn hbody,Df.binds hb⟩
theorem CalP.of {sp:DSp}(Df:MetAt K c m q st f fd)(S:FnScope N ps (defScope st))
  (hb:∀(kV doc pm:Value) (an:Option Addr) (cdv ct:Value) (us:List Value),us.length=ps.length->bindArgs (fnOf m q (defArgs st) (defBody st) (defScope st) .none kV doc pm an cdv ct) ⟨us,[]⟩=pure (ps.zip us)) (hn:n=ps.length)
  (hbody:∀(cdv:Value) (A:Around) (outer:List Env) (s:Shared) (H:Hp) (E:XK),Room k (A.deeper (envOfC q (defScope st) s.heap.objs.size f cdv))->
   ∃t T,PSs (cxOf CX0 P w K mg base N q (defScope st) f cdv A outer s H E).nox (defBody st) t/\SimS K t T/\∀ds Pr,sp ds Pr->T {nx:=λ_=>Pr (.fz .non),rt:=Pr} (startV N ds)):CalM P w K mg base c m (k+1) ps (spV K n sp):=by
 obtain⟨C,hC,cl,hm⟩:=Df.cl
 refine⟨C,f,fd,hC,cl,hm,Df.fn.ok S (λvs H Q E h=>by rw[<- hn];exact h.1) λcdv A outer s H vs Q E hr h=>?_,Df.fn.binds hb⟩
 obtain⟨_,F,ds,Pr,hs,hr',hsp,hq⟩:=h
 obtain⟨t,T,h1,h2,h3⟩:=hbody cdv A outer s H E hr
 refine⟨t,h1,h2 F H F H (start N vs) (startV N ds) {nx:=λ_=>Pr (.fz .non),rt:=Pr} _ ⟨_,startV_er hs hr'⟩ ⟨λF' H' Y G e p=>?_,λ_ _ _ _ _ z=>z.elim,λ_ _ _ _ _ z=>z.elim,λF' H' r v x n p=>hq r v F' H' p x n⟩ (h3 ds Pr hsp)⟩
 exact hq _ _ F' H' p e.ext (.fz rfl)
end
end L2
namespace PySem
open Sem (wp)
section
variable {prog:Program}{w:World}{A:Around}{E:Value->Shared->Prop}{s:Shared}
theorem lri_no_len:typeLookup (.type "list_reverseiterator") "__len__"=pure none:=by rw[typeLookup_type,builtinLookup_eq_fast];kernel_rfl
theorem lri_hint:typeLookup (.type "list_reverseiterator") "__length_hint__"=pure (some (.builtin "list_reverseiterator.__length_hint__")):=by rw[typeLookup_type,builtinLookup_eq_fast];kernel_rfl
theorem wpAny_hint_lri {I l:Addr}{i:Int}{Q:Bool->Shared->Prop}(hr:s.heap.IsRevIter I l i)(h:Q false s):wpAny (model prog w) A (Builtin.List.listLengthHint (.ref I)) Q E s:=by
 unfold Builtin.List.listLengthHint
 refine wpAny_bind (wpAny_specialOf hr.typeIs lri_no_len ?_)
 show wpAny _ A (specialOf (Value.ref I) (Str.ofString "__length_hint__") >>= _) _ _ _
 refine wpAny_bind (wpAny_specialOf hr.typeIs lri_hint ?_)
 generalize hid:("list_reverseiterator.__length_hint__":String)=id0
 wp_delta
 rw[show splitId id0=some ("list_reverseiterator","__length_hint__") from by subst hid;decide +kernel]
 subst hid
 refine wpAny_bind (wpAny_isInstance (T := "list_reverseiterator") (b:=true) hr.typeIs (by rw[isSubtype_type];kernel_rfl) ?_)
 refine wpAny_ite_split (λhab=>absurd hab (by decide)) (λ_=>?_)
 refine wpAny_ite_split (λ_=>?_) (λhab=>absurd (by decide +kernel) hab)
 refine wpAny_ite_split (λhab=>absurd hab (by decide +kernel)) (λ_=>?_)
 exact wpAny_pure h
theorem wpAny_extend_lri {R:Result->Shared->Prop}{I l:Addr}{items:Array Value}(hh:A.handled=none)(hr:s.heap.IsRevIter I l ((items.size:Int)-1))(hl:s.heap.IsList l items)(hlen:items.size<=2^24)
  (S:Addr) (res:Value) (c₀:Nat) (hS:s.heap.get? S=some {cls:=.type "list",data:=.seq #[] c₀}) (hSI:S≠I) (hSl:S≠l) (hlI:l≠I)
  (hR:∀h' tk acc' c',(∀b o,b≠S->b≠I->s.heap.get? b=some o->h'.get? b=some o)->h'.get? S=some {cls:=.type "list",dict:=none,data:=.seq acc' c',slots:=#[]}->
   ItemsOf (λi v=>items[items.size-1-i]?=some v) acc' items.size->R (.ok (.ret res)) {s with heap:=h',toks:=tk}):
  wpAny (model prog w) A.in1 (Builtin.List.listExtendWith (.ref S) (.ref I) res)
   (λfin s'=>match fin with | .done f=>R (.ok f) s' | .again c'=>c'.quiet=true/\codeAny (model prog w) A c' R s') (λe s'=>R (.error e) s') s:=by
 have hSf:S∉[I,l]:=λhm=>by
  rcases mem_cons.mp hm with e |e
  .exact hSI e
  .exact hSl (mem_singleton.mp e)
 have W:=(Walks.listRev (prog:=prog) (w:=w) (A:=A.in1) hh I l hlI items).toS
 unfold Builtin.List.listExtendWith
 refine wpAny_bind (wpAny_typeOf hr.typeIs ?_)
 have h1:Builtin.List.listSameRef (.ref S) (.ref I)=false:=by simp[Builtin.List.listSameRef,hSI]
 have h2:(Value.type "list_reverseiterator"==Value.type "list")=false:=by decide
 have h3:(Value.type "list_reverseiterator"==Value.type "tuple")=false:=by decide
 simp only[h1,h2,h3,Bool.or_false,false_eq_true,if_false]
 refine wpAny_bind (wpAny_pyIter_revIter hr ?_)
 refine wpAny_bind (wpAny_holding (wpAny_hint_lri hr ?_))
 refine wpAny_ite_split (λhab=>absurd hab (by decide)) (λ_=>wpAny_pure ⟨plainId_quiet F.plain_extend_loop _,?_⟩)
 refine codeAny_extend_loopS W (by rw[sizeLine_eq];omega) S hSf res items.size 0 _ #[] c₀ rfl (zero_le _) ⟨zero_le _,by simpa using hr,hl⟩ hS (ItemsOf.nil _) λs' acc' c' hm hS' hacc=>?_
 rw[Moved.eq_with hm]
 refine hR s'.heap s'.toks acc' c' (λb o hb hb2 e=>hm.heap b o (λhmem=>?_) e) hS' hacc
 rcases mem_cons.mp hmem with e' |hmem
 .exact hb e'
 .exact hb2 (mem_singleton.mp hmem)
theorem wpAny_list_init_lri {R:Result->Shared->Prop}{I l:Addr}{items:Array Value}(hh:A.handled=none)(hr:s.heap.IsRevIter I l ((items.size:Int)-1))(hl:s.heap.IsList l items)(hlen:items.size<=2^24)
  (S:Addr) (hS:s.heap.get? S=some {cls:=.type "list",data:=.seq #[]}) (hSI:S≠I) (hSl:S≠l) (hlI:l≠I)
  (hR:∀h' tk acc' c',(∀b o,b≠S->b≠I->s.heap.get? b=some o->h'.get? b=some o)->h'.get? S=some {cls:=.type "list",dict:=none,data:=.seq acc' c',slots:=#[]}->
   ItemsOf (λi v=>items[items.size-1-i]?=some v) acc' items.size->R (.ok (.ret .none)) {s with heap:=h',toks:=tk}):
  wpAny (model prog w) A.in1 (Builtin.«list.__init__» ⟨[.ref S,.ref I],[]⟩)
   (λfin s'=>match fin with | .done f=>R (.ok f) s' | .again c'=>c'.quiet=true/\codeAny (model prog w) A c' R s') (λe s'=>R (.error e) s') s:=by
 show wpAny _ _ (do let old <- Builtin.List.listItems (.ref S);Builtin.List.listUpdate (.ref S) (λ_=>#[]);letGo old.toList.reverse;Builtin.List.listExtendWith (.ref S) (.ref I) .none) _ _ s
 refine wpAny_bind ?_
 unfold Builtin.List.listItems
 refine wpAny_bind (wpAny_seqItems hS rfl (wpAny_pure ?_))
 show wpAny _ _ (updateSeq S (λ_=>#[]) >>= λ_=>letGo (#[]:Array Value).toList.reverse >>= λ_=>Builtin.List.listExtendWith (.ref S) (.ref I) .none) _ _ s
 refine wpAny_bind (wpAny_updateSeq hS rfl ?_)
 have hS₂:=get?_update_self (Obj.mapSeq (λ_=>(#[]:Array Value))) hS rfl
 have oth:∀b o,b≠S->s.heap.get? b=some o->(s.heap.update S (Obj.mapSeq (λ_=>(#[]:Array Value)))).get? b=some o:=
  λb o hb e=>(Heap.get?_update_other _ _ (Ne.symm hb)).trans e
 refine wpAny_bind (wpAny_letGo ?_)
 refine wpAny_extend_lri hh (hr.at λo e=>oth I o (Ne.symm hSI) e) (hl.at λo e=>oth l o (Ne.symm hSl) e) hlen S .none _ hS₂ hSI hSl hlI λh' tk acc' c' hk hS' hacc=>?_
 exact hR h' tk acc' c' (λb o hb hb2 e=>hk b o hb hb2 (oth b o hb e)) hS' hacc
theorem call_list_lri {Q:Value->Shared->Prop}{I l:Addr}{items:Array Value}(hh:A.handled=none)(hr:s.heap.IsRevIter I l ((items.size:Int)-1))(hl:s.heap.IsList l items)(hlen:items.size<=2^24)(hlI:l≠I)
  (hQ:∀h' tk acc' c',(∀b o,b≠I->s.heap.get? b=some o->h'.get? b=some o)->
   h'.get? s.heap.objs.size=some {cls:=.type "list",dict:=none,data:=.seq acc' c',slots:=#[]}->ItemsOf (λi v=>items[items.size-1-i]?=some v) acc' items.size->Q (.ref s.heap.objs.size) {s with heap:=h',toks:=tk}):
  wpAny (model prog w) A (call (.type "list") [.ref I]) Q E s:=by
 refine callType_codes (Q₁:=λobj s₁=>obj = .ref s.heap.objs.size/\s₁={s with heap:=s.heap.push {cls:=.type "list",data:=.seq #[]}}) F.called_list (F.typeCall_list_1 _) F.entry_list_init
  (code_list_new _ ⟨rfl,rfl⟩) λobj s₁ h₁=>?_
 obtain⟨rfl,rfl⟩:=h₁
 have hS:(s.heap.push {cls:=.type "list",data:=.seq #[]}).get? s.heap.objs.size=some {cls:=.type "list",data:=.seq #[]}:=get?_push_size _ rfl
 obtain⟨oI,hoI,_⟩:=id hr
 obtain⟨ol,hol,_⟩:=id hl
 refine⟨⟨_,hS,rfl⟩,F.args_list_init_2 _ _,wpAny_list_init_lri (A:=A.in1) hh (hr.at λo e=>get?_push_of_some _ e) (hl.at λo e=>get?_push_of_some _ e) hlen _ hS (Ne.symm (ne_of_lt (lt_size hoI))) (Ne.symm (ne_of_lt (lt_size hol))) hlI λh' tk acc' c' hk hS' hacc=>?_⟩
 exact⟨rfl,hQ h' tk acc' c' (λb o hb e=>hk b o (ne_of_lt (lt_size e)) hb (get?_push_of_some _ e)) hS' hacc⟩
end
end PySem
namespace L2
open PySem PySem.Spec PyProof.Rows
def dListRev (As:DA):DO:=λG P=>As G λds=>match ds with
 | [.lst xs]=>D.lfs xs=true/\xs.length<=1000000/\P (.nl (xs.reverse.map .fz))
 |_=>False
section
variable {X:Cx}{K:Frag}
def tListRev (K:Frag)(ta:TA):TE:=λY H Q=>ta Y H λvs H1=>∃a xs,vs=[.ref a]/\SqL K H1 a xs/\xs.length<=1000000/\∀p H',H1 p=none->Same H1 H'->H' p=some (.lst xs.reverse)->Q (.ref p) H'
theorem vals_rev {xs:List V}{its:List Value}{acc:Array Value}(r:Vals xs its)(h:ItemsOf (λi v=>its.toArray[its.toArray.size-1-i]?=some v) acc its.toArray.size):Vals xs.reverse acc.toList:=by
 have hr:Vals xs.reverse its.reverse:=by
  clear h
  induction r with
  |nil=>exact .nil
  |cons a r ih=>
   rw[List.reverse_cons,List.reverse_cons]
   exact ih.append (.cons a .nil)
 have e:acc.toList=its.reverse:=by
  obtain⟨h1,h2⟩:=h
  have h1':acc.size=its.length:=by simpa using h1
  rw[size_toArray]at h2
  refine List.ext_getElem? λi=>?_
  by_cases hi:i<its.length
  .rw [List.getElem?_reverse hi]
   have hia:i<acc.size:=by omega
   have q:=h2 i acc[i] (by simp[hia])
   rw[Array.getElem?_toList,Array.getElem?_eq_getElem hia,<- q]
   simp
  .rw [List.getElem?_eq_none (by simp;omega),List.getElem?_eq_none (by simp;omega)]
 rw[e];exact hr
theorem pe_listRev {a:Expr}{ta:TA}{p p' pos pos':Pos}(hg:Gl X "list")(hm:X.mg "list"=none)(hc:X.calm=true)(hm':X.mg "reversed"=none)(ha:PA X [a] ta)(hg':Gl X "reversed":=by rfl)
  (hs:starEach [a] X.env=[(false,eval a X.env)]:=by rfl)
  (hs2:starEach [Expr.Call (.Name "reversed" p') [a] [] pos'] X.env=[(false,eval (Expr.Call (.Name "reversed" p') [a] [] pos') X.env)]:=by rfl):
  PE X (.Call (.Name "list" p) [.Call (.Name "reversed" p') [a] [] pos'] [] pos) (tListRev X.K ta):=by
 intro pins s Y H Q I h
 refine Call_ (ld_blt I hg hm PyProof.Rows.boot_list (PyProof.Rows.callWith_type1 ?_ hs2 rfl))
 rw[hs2]
 show wpAny _ _ (spliced [(false,eval (Expr.Call (.Name "reversed" p') [a] [] pos') X.env)]) _ _ s
 refine Calls.spliced_cons ?_
 refine Call_ (ld_blt I hg' hm' PyProof.Rows.boot_reversed (PyProof.Rows.callWith_type1 (thn (ha pos' pins s Y H _ I h) λus s1 ⟨vs,H1,I1,r1,q1⟩=>?_) hs rfl))
 obtain⟨l,xs,e,hq,hsz,q⟩:=q1
 subst e
 obtain⟨u,rfl,ru⟩:=vals1 r1
 cases ru
 obtain⟨its,rv,pt,hz⟩:=I1.list hq
 have hl:=rv.length
 refine PySem.call_reversed_list (items:=its.toArray) pt.isList ?_
 refine Calls.spliced_nil ?_
 have I2:Inv X pins Y H1 {s1 with heap:=s1.heap.push (revObj l ((its.toArray.size:Int)-1)),toks:=s1.toks}:=I1.kept λb o e=>get?_push_of_some _ e
 obtain⟨ol,hol,_⟩:=id pt.isList
 have hlt:=lt_size hol
 refine PySem.call_list_lri (items:=its.toArray) (I.ok.hd hc) ⟨_,get?_push_size _ rfl,rfl,rfl⟩ (pt.isList.at λo e=>get?_push_of_some _ e) (by rw[size_toArray];omega) (ne_of_lt hlt) λh' tk acc c' hk ho hit=>?_
 have hf:=I2.hok.fresh (Nat.le_refl _)
 have hsz2:(s1.heap.push (revObj l ((its.toArray.size:Int)-1))).objs.size=s1.heap.objs.size+1:=by simp[Heap.push]
 refine⟨.ref _,_,I1.laid (t':=tk) (o:=.lst xs.reverse) (λb o e=>hk b o (ne_of_lt (lt_size e)) (get?_push_of_some _ e)) (by rw[hsz2];exact le_succ _) ⟨?_,acc.toList,c',vals_rev rv hit,?_⟩,rfl,q _ _ hf (Same.new hf) upd_same⟩
 .rw [length_reverse];exact sz_le hsz
 .simpa using ho
theorem sO_listRev {a:TA}{As:DA}(h:SimAB K a As):SimO K (tListRev K a) (dListRev As):=λF0 H0 F H Y G P Q e w q=>h F0 H0 F H Y G _ _ e w λds vs F1 H1 w1 x1 r1=>by
 try dsimp only at w1
 split at w1
 .rename_i xs
  obtain⟨v,rfl,⟨a,us,rfl,h1,h2⟩⟩:=reps1 r1
  refine⟨a,us,rfl,h1,by rw[<- h2.length];exact w1.2.1,λp H' p0 sm p1=>?_⟩
  have hr:=(Reps.lf x1.fh h2 w1.1).reverse
  refine q _ _ (frzT F1 H1) H' w1.2.2 (x1.trans ((frzT_ext x1.fh).trans (Ext.grow (frzT_ext x1.fh).fh sm))) ?_
  exact RepN.list (x1.hh.free p0) ((frzT_ext x1.fh).fh.free p0) p1 hr
 .exact w1.elim
end
def repS (x:Str)(n:Int):Str:=if n<1 then Str.empty else if (n==1 ||x.length==0)=true then x else ⟨(List.replicate n.toNat x.cps).foldl (·++·) #[]⟩
def dJoin (E El:DE):DE:=λG P=>E G λd=>match d with
 | .str x=>El G λl=>match l with
  | .lst ds=>∃ys:List Str,ds=ys.map D.str/\(ys.map (·.length)).sum+ys.length*x.length<=16777216/\P (.str (Txt.join x ys))
  |_=>False
 |_=>False
def mulSD:DR2:=λx y P=>match x,y with
 | .str x,.int n=>-(2^62)<n/\n<2^62/\x.length*n.toNat<=1000000/\P (.str (repS x n))
 |_,_=>False
def addSD:DR2:=λx y P=>match x,y with
 | .str x,.str y=>x.length+y.length<=1000000/\P (.str (x++y))
 |_,_=>False
section
variable {X:Cx}{K:Frag}
def rMulS:R2:=λx y H Q=>∃z n,x = .str z/\y = .int n/\-(2^62)<n/\n<2^62/\z.length*n.toNat<=1000000/\Q (.str (repS z n)) H
theorem op_mulS:OpR X (binaryOp .Mult) rMulS:=by
 intro pins s Y H x y v u Q I rx ry h
 obtain⟨z,n,rfl,rfl,h1,h2,h3,q⟩:=h
 obtain⟨t,rfl⟩:=rx
 obtain⟨t',rfl⟩:=ry
 have q':∀k t,EP X pins Y Q (.str (repS z n) t) {s with toks:=k}:=λk t=>⟨.str _,H,I.tok k,⟨_,rfl⟩,q⟩
 refine PySem.P.mul_str ?_ (λa b=>?_) (λa b=>?_) ?_
 .simp;omega
 .have hz:z.length<=1000000:=le_trans (Nat.le_mul_of_pos_right _ (by omega)) h3
  have hn:n<=1000000∨z.length=0:=by
   by_cases hz0:z.length=0
   .exact .inr hz0
   .refine .inl ?_
    have:=le_trans (Nat.le_mul_of_pos_left n.toNat (Nat.pos_of_ne_zero hz0)) h3
    omega
  rcases hn with hn |hn
  .have e:(1000000:Int)<=(2^63-1) / n:=by
    rw[Int.le_ediv_iff_mul_le (by omega)]
    have:(1000000:Int)*n<=1000000*1000000:=Int.mul_le_mul_of_nonneg_left hn (by omega)
    omega
   omega
  .simp [hn]at b
 .have:=sz_le h3
  show decide (_ > sizeLine)=false
  exact decide_eq_false (by omega)
 .have hq:=q' s.toks t
  have hq2:=q' (s.toks+1) s.toks
  unfold repS at hq hq2
  split
  .rename_i c
   rw[if_pos c]at hq2
   exact⟨zero_le _,hq2⟩
  .rename_i c
   rw[if_neg c]at hq hq2
   split
   .rename_i c2
    rw[if_pos c2]at hq
    exact hq
   .rename_i c2
    rw[if_neg c2]at hq2
    refine⟨?_,hq2⟩
    have e:∀(k:Nat) (a:Array Nat),((List.replicate k z.cps).foldl (·++·) a).size=a.size+k*z.cps.size:=by
     intro k
     induction k with
     |zero=>intro a;simp
     |succ k ih=>intro a;rw[replicate_succ,foldl_cons,ih,size_append,Nat.succ_mul];omega
    show ((List.replicate n.toNat z.cps).foldl (·++·) #[]).size<=sizeLine
    rw[e]
    have h3':z.cps.size*n.toNat<=1000000:=h3
    rw[Nat.mul_comm]at h3'
    exact sz_le (by simpa using h3')
theorem oS_mulS:OpS K rMulS mulSD:=λF H x y v u P Q s rx ry w q=>by
 unfold mulSD at w
 split at w
 .cases rx;cases ry
  exact⟨_,_,rfl,rfl,w.1,w.2.1,w.2.2.1,q _ _ F H w.2.2.2 (Ext.refl s) rfl⟩
 .exact w.elim
theorem oS_addS:OpS K (λx y H Q=>∃i j,x = .str i/\y = .str j/\i.length+j.length<=sizeLine/\Q (.str (i++j)) H) addSD:=λF H x y v u P Q s rx ry w q=>by
 unfold addSD at w
 split at w
 .cases rx;cases ry
  exact⟨_,_,rfl,rfl,sz_le w.1,q _ _ F H w.2 (Ext.refl s) rfl⟩
 .exact w.elim
def rSlStr:V->Option Int->Option Int->Hp->VK->Prop:=λx lo hi H Q=>∃z,x = .str z/\z.length<=sizeLine/\Q (.str (Txt.slice z lo hi)) H
theorem sl_str:SlR X rSlStr:=by
 intro pins s Y H x v vl vu lo hi sl Q I rx hs pl pu h
 obtain⟨z,rfl,hz,q⟩:=h
 obtain⟨t,rfl⟩:=rx
 refine⟨"str",_,F.slot_str_getitem.lookup,typeIs_str _ _ _,?_⟩
 have fin:∀t' k,EP X pins Y Q (.str (Txt.slice z lo hi) t') {s with toks:=k}:=λt' k=>⟨.str _,H,I.tok k,⟨_,rfl⟩,q⟩
 have lp:∀{v:Value} {o:Option Int},IsPart v o->∃l:Option (Int×Tok),v=partValue l/\l.map (·.1)=o:=λh=>by
  cases h with
  |none=>exact⟨none,rfl,rfl⟩
  |int i t=>exact⟨some (i,t),rfl,rfl⟩
 obtain⟨l,rfl,e1⟩:=lp pl
 obtain⟨u,rfl,e2⟩:=lp pu
 subst e1 e2
 exact wpAny_getItem_str_slice (l:=l) (u:=u) (st:=none) hs rfl (post_val_or_str ⟨le_trans (Txt.slice_le z _ _) hz,λt' k=>fin t' k⟩)
def dSlS (E:DE)(L U:DPt):DE:=λG P=>E G λd=>L G λlo=>U G λhi=>match d with
 | .str z=>z.length<=1000000/\P (.str (Txt.slice z lo hi))
 |_=>False
theorem sF_slS {ta:TE}{Ea:DE}{tl tu:TO}{L U:DPt}(ha:SimF K ta Ea)(hl:SimP K tl L)(hu:SimP K tu U):SimF K (tSl rSlStr ta tl tu) (dSlS Ea L U):=λF0 H0 F H Y G P Q e w q=>
 ha F0 H0 F H Y G _ _ e w λd v F1 H1 w1 x1 r1=>hl F0 H0 F1 H1 Y G _ _ (e.on x1) w1 λlo F2 H2 w2 x2=>hu F0 H0 F2 H2 Y G _ _ (e.on (x1.trans x2)) w2 λhi F3 H3 w3 x3=>by
  try dsimp only at w3
  split at w3
  .rename_i z
   cases (show v=V.str z from r1)
   exact⟨z,rfl,sz_le w3.1,q _ _ F3 H3 w3.2 (x1.trans (x2.trans x3)) rfl⟩
  .exact w3.elim
theorem isEmpty_reps {F:Hp}:∀{ds:List D} {vs:List V},Reps K F ds vs->vs.isEmpty=ds.isEmpty
 | [],vs,h=>by cases (show vs=[] from h);rfl
 |d::ds,vs,h=>by obtain⟨v,r,rfl,_⟩:=h;rfl
theorem sT_truth {t:TE}{E:DE}(h:SimB K t E):SimT K (λY H Q=>t Y H λx H1=>∃k,TruV K x H1 k/\Q k H1) (dTruth E):=λF0 H0 F H Y G P Q e w q=>h F0 H0 F H Y G _ _ e w λd v F1 H1 w1 x1 r1=>by
 try dsimp only at w1
 split at w1
 .cases r1;exact⟨_,rfl,q _ F1 H1 w1 x1⟩
 .rename_i i
  cases r1
  refine⟨_,rfl,q _ F1 H1 ?_ x1⟩
  rw[show (i != 0)=decide (i≠0) by rw[Bool.eq_iff_iff];simp]
  exact w1
 .obtain ⟨a,vs,rfl,h1,h2⟩:=r1
  exact⟨_,.inl ⟨vs,h1,by rw[isEmpty_reps h2]⟩,q _ F1 H1 w1 x1⟩
 .obtain ⟨a,vs,rfl,h1,h2⟩:=r1
  exact⟨_,.inr (.inl ⟨vs,h1,by rw[isEmpty_reps h2]⟩),q _ F1 H1 w1 x1⟩
 .cases r1;exact⟨_,rfl,q _ F1 H1 w1 x1⟩
 .exact w1.elim
end
def sgns (x:Str):List Str:=x.cps.toList.map λc=>⟨#[c]⟩
def dItS (E:DE):DA:=λG P=>E G λd=>match d with
 | .str x=>P ((sgns x).map D.str)
 |_=>False
section
variable {X:Cx}{K:Frag}
def Itx (x:Str):It:=⟨λi _=>i<x.cps.size,λi H v H'=>H'=H/\∃c,x.cps[i]?=some c/\v = .str ⟨#[c]⟩,λi _=>x.cps.size<=i⟩
theorem turn_str {P:Program}{w:World}{K:Frag}{tg:Expr}(it:Addr)(x:Str)(t:Tok):Turn P w K tg (Itx x) [it] it (λi h=>i<=x.cps.size/\(h.IsStrIter it "str_ascii_iterator" x t i∨h.IsStrIter it "str_iterator" x t i)) where
 mem:=by simp
 obj:=λi h st b hb=>by
  have e:b=it:=by simpa using hb
  subst e
  rcases st.2 with⟨o,ho,_,hd⟩ | ⟨o,ho,_,hd⟩
  .exact ⟨o,ho,λv z=>by rw[hd]at z;cases z⟩
  .exact ⟨o,ho,λv z=>by rw[hd]at z;cases z⟩
 keep:=λi h h' st k=>⟨st.1,st.2.imp (λ⟨o,e,r⟩=>⟨o,k it (by simp) o e,r⟩) (λ⟨o,e,r⟩=>⟨o,k it (by simp) o e,r⟩)⟩
 item:=by
  kj_on
  have hi:i<x.cps.size:=hg
  obtain⟨f0,f1,f2,f3,f4,f5⟩:=hf it (by simp)
  have hx:x.cps[i]?=some x.cps[i]:=Array.getElem?_eq_getElem hi
  rcases st.2 with st0 |st0
  .refine PySem.wpAny_pyNext_ascii_item st0 hx λh' st1 sb=>?_
   have I1:Inv X pins Y H {s with heap:=h',toks:=s.toks+1}:=I.turned (t':=s.toks+1) (λb o hb e=>(sb.2 b hb).trans e) f0 f1 f3 f4 f5
   obtain⟨o,ho,hc',hd'⟩:=id st1
   exact⟨_,rfl,go_of (s:={s with heap:=h',toks:=s.toks+1}) (n := "str_ascii_iterator") ho hc' hd' (by decide) ⟨.str ⟨#[x.cps[i]]⟩,H,I1,⟨_,rfl⟩,⟨rfl,_,hx,rfl⟩,⟨by omega,.inl st1⟩,λb hb=>(hf b hb).1⟩⟩
  .refine PySem.wpAny_pyNext_wide_item st0 hx λh' st1 sb=>?_
   have I1:Inv X pins Y H {s with heap:=h',toks:=s.toks+1}:=I.turned (t':=s.toks+1) (λb o hb e=>(sb.2 b hb).trans e) f0 f1 f3 f4 f5
   obtain⟨o,ho,hc',hd'⟩:=id st1
   exact⟨_,rfl,go_of (s:={s with heap:=h',toks:=s.toks+1}) (n := "str_iterator") ho hc' hd' (by decide) ⟨.str ⟨#[x.cps[i]]⟩,H,I1,⟨_,rfl⟩,⟨rfl,_,hx,rfl⟩,⟨by omega,.inr st1⟩,λb hb=>(hf b hb).1⟩⟩
 done:=by
  kj_on
  obtain⟨f0,f1,f2,f3,f4,f5⟩:=hf it (by simp)
  have hx:x.cps[i]?=none:=Array.getElem?_eq_none hg
  rcases st.2 with st0 |st0
  .exact PySem.wpAny_pyNext_ascii_end (I.ok.hd hc) st0 hx λh' eb=>⟨rfl,I.turned (t':=s.toks) (λb o hb e=>eb b o hb e) f0 f1 f3 f4 f5⟩
  .exact PySem.wpAny_pyNext_wide_end (I.ok.hd hc) st0 hx λh' eb=>⟨rfl,I.turned (t':=s.toks) (λb o hb e=>eb b o hb e) f0 f1 f3 f4 f5⟩
 self:=λ_ _ _ _ _ st h=>by
  rcases st.2 with st0 |st0
  .exact PySem.wpAny_pyIter_striter_ascii st0 h
  .exact PySem.wpAny_pyIter_striter_wide st0 h
def iStr (te:TE):TI:=λY H R=>te Y H λv H1=>∃x,v = .str x/\R (Itx x) H1
theorem pi_str {tg l:Expr}{te:TE}(he:PE X l te):PI X tg l (iStr te):=by
 intro pins s Y H R I h
 refine thn (he pins s Y H _ I h) λu s1 ⟨v,H1,I1,r1,q1⟩=>?_
 obtain⟨x,e,q⟩:=q1
 subst e
 obtain⟨t,rfl⟩:=r1
 cases ha:x.cps.all (· < 128)
 .refine PySem.wpAny_pyIter_wide ha ?_
  refine⟨s1.heap.objs.size,[s1.heap.objs.size],_,_,H1,rfl,I1.kept (t':=s1.toks) λb o e=>get?_push_of_some _ e,turn_str s1.heap.objs.size x t,⟨zero_le _,.inr ⟨_,get?_push_size _ rfl,rfl,rfl⟩⟩,λb hb=>?_,q⟩
  have e:b=s1.heap.objs.size:=by simpa using hb
  subst e
  exact I1.fpOk (Nat.le_refl _) (I1.hok.fresh (Nat.le_refl _))
 .refine PySem.wpAny_pyIter_ascii ha ?_
  refine⟨s1.heap.objs.size,[s1.heap.objs.size],_,_,H1,rfl,I1.kept (t':=s1.toks) λb o e=>get?_push_of_some _ e,turn_str s1.heap.objs.size x t,⟨zero_le _,.inl ⟨_,get?_push_size _ rfl,rfl,rfl⟩⟩,λb hb=>?_,q⟩
  have e:b=s1.heap.objs.size:=by simpa using hb
  subst e
  exact I1.fpOk (Nat.le_refl _) (I1.hok.fresh (Nat.le_refl _))
theorem sI_str {t:TE}{E:DE}(h:SimB K t E):SimI K (iStr t) (dItS E):=λF0 H0 F H Y G P R e w q=>h F0 H0 F H Y G _ _ e w λd v F' H' p x r=>by
 try dsimp only at p
 split at p
 .rename_i z
  cases (show v=V.str z from r)
  refine⟨z,rfl,q _ _ F' H' p x λF1 H1 s1 s2=>?_⟩
  have hl:((sgns z).map D.str).length=z.cps.size:=by simp[sgns]
  rw[hl]
  refine⟨λi hi=>hi,Nat.le_refl _,λi v H2 hi y=>?_⟩
  obtain⟨rfl,c,hc,rfl⟩:=y
  refine⟨.str ⟨#[c]⟩,F1,?_,Ext.refl s2,rfl⟩
  simp[sgns,hc]
 .exact p.elim
end
section
variable {X:Cx}{K:Frag}
end
section
variable {K:Frag}{c f:Str}{ns:List Str}{j:Nat}{ta:TE}{E:DE}
end
section
variable {X:Cx}{tg elt iter cd:Expr}{scope:Scope}{N:List Str}{ix:List (Option Nat)}{wi:TI}{g:TG}{tc:TT}{te:TE}{pos:Pos}
end
section
variable {K:Frag}{te:TE}{Eo:DO}
end
theorem adr {x y:Nat}(h:x≠y):(show Addr from x)≠(show Addr from y):=h
section
variable {prog:Program}{w:World}{A:Around}{E:Value->Shared->Prop}{s:Shared}
end
section
variable {X:Cx}{K:Frag}{mg:Str->Option Value}
end
section
variable {X:Cx}{K:Frag}
end
abbrev TK:=V->St->Hp->(Bool->Hp->Prop)->Prop
section
variable {X:Cx}{K:Frag}{a e e':Expr}{es:List Expr}{op op':CmpOp}{ops:List CmpOp}{r:R2}{ta te:TE}{tk:TK}{pos:Pos}
end
abbrev DK:=D->Dst->(Bool->Prop)->Prop
section
variable {K:Frag}{ta te:TE}{E Ea:DE}{tk:TK}{k:DK}{R:R2}{r:DR2}
end
def sNever:DS:=λ_ _=>False
section
variable {X:Cx}{K:Frag}{st:Stmt}{sts:List Stmt}
theorem sS_never:SimS K tNever sNever:=λ_ _ _ _ _ _ _ _ _ _ w=>w.elim
end
abbrev P2 (h:Heap)(t:Addr)(a b:Value):Prop:=h.get? t=some {cls:=.type "tuple",data:=.seq #[a,b]}
abbrev Zt (h:Heap)(b:Nat)(v:Value):Prop:=IsZip h (b+4) (b+2) (b+3) v
theorem tupIter_here {h h':Heap}{a t:Addr}{i:Nat}(x:IsTupIter h a t i)(e:∀o,h.get? a=some o->h'.get? a=some o):IsTupIter h' a t i:=let⟨o,ho,r⟩:=x;⟨o,e _ ho,r⟩
section
variable {prog:Program}{w:World}{A:Around}{E:Value->Shared->Prop}{s:Shared}
theorem nextT_item {it t:Addr}{i:Nat}{its:Array Value}{x:Value}{Q:Value->Shared->Prop}(hi:IsTupIter s.heap it t i)(ht:IsTup s.heap t its)(hx:its[i]?=some x)(q:∀g,IsTupIter g it t (i+1)->Heap.SameBut it s.heap g->Q x {s with heap:=g}):wpAny (model prog w) A (Builtin.SmallTypes.nextOf (.ref it)) Q E s:=by
 obtain⟨o,o1,o2,o3⟩:=id hi
 obtain⟨p,p1,_,n,p2⟩:=ht
 unfold Builtin.SmallTypes.nextOf
 refine wpAny_bind (wpAny_callSpecial?_slot (name:=Str.ofString "__next__") hi.typeIs slot_tupleiter_next (wpAny_call_entry slot_tupleiter_next hi.typeIs entry_tupleiter_next ?_ (args_tupleiter_next _)))
 show wpAny _ _ (field (.ref it) 0 >>= _) _ _ s
 refine wpAny_bind (wpAny_field o1 o3 (x:=.ref t) rfl ?_)
 show wpAny _ _ (if (Value.ref t==Value.none)=true then _ else _) _ _ s
 rw[if_neg (show ¬ ((Value.ref t==Value.none)=true) from λz=>Bool.false_ne_true z)]
 show wpAny _ _ (field (.ref it) 1 >>= _) _ _ s
 refine wpAny_bind (wpAny_field o1 o3 (x:=.int i 0) rfl ?_)
 show wpAny _ _ (seqItems? (.ref t) >>= _) _ _ s
 refine wpAny_bind (wpAny_seqItems p1 p2 ?_);simp only[hx,toNat_natCast]
 refine wpAny_bind (wpAny_setField o1 o3 (by simp) (wpAny_pure ⟨x,rfl,wpAny_pure (q _ ?_ (Heap.SameBut.update ..))⟩))
 exact⟨_,get?_update_self _ o1 (Obj.isFreed_of_fields (Obj.data_mapFields o3 _)),(Obj.cls_mapFields ..).trans o2,by rw[Obj.data_mapFields o3];simp[rawInt]⟩
theorem nextT_end {it t:Addr}{i:Nat}{its:Array Value}{Q:Value->Shared->Prop}(hh:A.handled=none)(hi:IsTupIter s.heap it t i)(ht:IsTup s.heap t its)(hx:its[i]?=none)(q:∀g e,Heap.ExtBut it s.heap g->(∃o,g.get? e=some o/\o.cls = .type "StopIteration")->E (.ref e) {s with heap:=g}):wpAny (model prog w) A (Builtin.SmallTypes.nextOf (.ref it)) Q E s:=by
 obtain⟨o,o1,o2,o3⟩:=id hi
 obtain⟨p,p1,_,n,p2⟩:=ht
 unfold Builtin.SmallTypes.nextOf
 refine wpAny_bind (wpAny_callSpecial?_slot (name:=Str.ofString "__next__") hi.typeIs slot_tupleiter_next (wpAny_call_entry slot_tupleiter_next hi.typeIs entry_tupleiter_next ?_ (args_tupleiter_next _)))
 show wpAny _ _ (field (.ref it) 0 >>= _) _ _ s
 refine wpAny_bind (wpAny_field o1 o3 (x:=.ref t) rfl ?_)
 show wpAny _ _ (if (Value.ref t==Value.none)=true then _ else _) _ _ s
 rw[if_neg (show ¬ ((Value.ref t==Value.none)=true) from λz=>Bool.false_ne_true z)]
 show wpAny _ _ (field (.ref it) 1 >>= _) _ _ s
 refine wpAny_bind (wpAny_field o1 o3 (x:=.int i 0) rfl ?_)
 show wpAny _ _ (seqItems? (.ref t) >>= _) _ _ s
 refine wpAny_bind (wpAny_seqItems p1 p2 ?_);simp only[hx,toNat_natCast]
 refine wpAny_bind (wpAny_rule (wpAny_bind (wpAny_setField o1 o3 (by simp) ?_)))
 show wpAny _ _ (newExc (.type "StopIteration") [] >>= _) _ _ _
 refine wpAny_bind ?_;simp only[newTuple,newExc]
 refine wpAny_bind (wpAny_newObj_type ?_ (by size_fits));refine wpAny_bind (m:=firstArgMember _ _) (wpAny_of_eq (a:=Value.none) (by first |rfl | (simp only[firstArgMember];rfl)) ?_)
 refine wpAny_newObj_type ?_ (by size_fits);simp only[raiseNew]
 refine wpAny_bind (wpAny_handled ?_);first |rw[show A.in1.handled=none from hh] |rw[hh]
 exact wpAny_bind (wpAny_pure (wpAny_throw (q _ _ (((Heap.SameBut.update ..).extBut.push _).push _) ⟨_,get?_push_size _ rfl,rfl⟩)))
theorem p2_put {t:Addr}{a b x:Value}{k:Nat}{Q:Unit->Shared->Prop}(ht:P2 s.heap t a b)
  (q:∀g,g.get? t=some {cls:=.type "tuple",data:=.seq ((#[a,b]:Array Value).setIfInBounds k x)}->Heap.SameBut t s.heap g->Q () {s with heap:=g}):wpAny (model prog w) A (updateSeq t (·.setIfInBounds k x)) Q E s:=by
 refine wpAny_updateSeq ht rfl (q _ ?_ (Heap.SameBut.update ..))
 rw[get?_update_self _ ht rfl];simp[Obj.mapSeq]
theorem zipT_step {b k:Nat}{l1 l2:Addr}{xs ys:Array Value}{x y a1 a2:Value}{Q:Value->Shared->Prop}(hb:l1<b/\l2<b)
  (Z:Zt s.heap b .none) (I0:P2 s.heap (b+2) (.ref b) (.ref (b+1))) (O0:P2 s.heap (b+3) a1 a2) (w1:IsTupIter s.heap b l1 k) (w2:IsTupIter s.heap (b+1) l2 k)
  (p1:IsTup s.heap l1 xs) (p2:IsTup s.heap l2 ys) (e1:xs[k]?=some x) (e2:ys[k]?=some y)
  (q:∀g,Zt g b (rawInt s.heap.objs.size)->P2 g (b+3) x y->IsTupIter g b l1 (k+1)->IsTupIter g (b+1) l2 (k+1)->P2 g s.heap.objs.size x y->g.objs.size=s.heap.objs.size+1->
   (∀c o,c≠b+4->c≠b+3->c≠b->c≠b+1->s.heap.get? c=some o->g.get? c=some o)->Q (.ref s.heap.objs.size) {s with heap:=g}):
  wpAny (model prog w) A (Builtin.«zip.__next__» ⟨[.ref (b+4)],[]⟩) (λr s'=>∃v,r = .done (.ret v)/\Q v s') E s:=by
 obtain⟨b1,b2⟩:=hb
 have b1:(l1:Nat)<b:=b1
 have b2:(l2:Nat)<b:=b2
 have off:∀l:Nat,l<b->l≠b+4/\l≠b+3/\l≠b:=λl h=>⟨by omega,by omega,by omega⟩
 obtain⟨a14,_,_⟩:=off l1 b1
 obtain⟨a24,a23,a20⟩:=off l2 b2
 show wpAny _ _ (field (.ref (b+4)) 2 >>= _) _ _ _
 refine wpAny_bind (wpAny_field Z rfl (x:=.bool false) rfl ?_)
 show wpAny _ _ (field (.ref (b+4)) 3 >>= _) _ _ _
 refine wpAny_bind (wpAny_field Z rfl (x:=.ref (b+2)) rfl (wpAny_bind (wpAny_seqItems I0 rfl ?_)))
 show wpAny _ _ (Builtin.SmallTypes.ownedTupleIsFree (.ref (b+4)) >>= _) _ _ _
 refine wpAny_bind ?_
 unfold Builtin.SmallTypes.ownedTupleIsFree
 refine wpAny_bind (wpAny_field Z rfl (x:=.none) rfl (wpAny_pure ?_));simp only[if_true]
 refine wpAny_bind (wpAny_rule (wpAny_bind (wpAny_field Z rfl (x:=.ref (b+3)) rfl (wpAny_bind (wpAny_setField_rec Z (by simp) λg1 Z1 f1=>?_)))))
 replace Z1:Zt g1 b .ellipsis:=Z1
 refine wpAny_bind ?_
 simp only[forIn_cons,List.forIn_nil,List.zipIdx_cons,List.zipIdx_nil]
 refine wpAny_bind (wpAny_bind (wpAny_onRaise ?_))
 show wpAny _ _ (Builtin.SmallTypes.nextOf (.ref b) >>= _) _ _ _
 refine wpAny_bind (nextT_item (w1.extBut f1.extBut (adr (by omega))) (p1.extBut f1.extBut a14) e1 λg2 v1 f2=>wpAny_pure ?_)
 have O2:P2 g2 (b+3) a1 a2:=f2.extBut _ _ (adr (by omega)) (f1.extBut _ _ (adr (by omega)) O0)
 refine wpAny_bind (wpAny_seqItems O2 rfl (wpAny_bind (p2_put O2 λg3 O3 f3=>wpAny_bind (wpAny_letGo (wpAny_pure ?_)))))
 replace O3:P2 g3 (b+3) x a2:=O3
 refine wpAny_bind (wpAny_bind (wpAny_onRaise ?_))
 show wpAny _ _ (Builtin.SmallTypes.nextOf (.ref (b+1)) >>= _) _ _ _
 refine wpAny_bind (nextT_item (((w2.extBut f1.extBut (adr (by omega))).extBut f2.extBut (adr (by omega))).extBut f3.extBut (adr (by omega))) (((p2.extBut f1.extBut a24).extBut f2.extBut a20).extBut f3.extBut a23) e2 λg4 v2 f4=>wpAny_pure ?_)
 have O4:P2 g4 (b+3) x a2:=f4.extBut _ _ (adr (by omega)) O3
 refine wpAny_bind (wpAny_seqItems O4 rfl (wpAny_bind (p2_put O4 λg5 O5 f5=>wpAny_bind (wpAny_letGo (wpAny_pure (wpAny_pure ?_))))))
 replace O5:P2 g5 (b+3) x y:=O5
 refine wpAny_bind (wpAny_seqItems O5 rfl (wpAny_bind (wpAny_newTuple ?_)))
 have size:g5.objs.size=s.heap.objs.size:=by rw[f5.1,f4.1,f3.1,f2.1,f1.1]
 have Z5:Zt g5 b .ellipsis:=f5.extBut _ _ (adr (by omega)) (f4.extBut _ _ (adr (by omega)) (f3.extBut _ _ (adr (by omega)) (f2.extBut _ _ (adr (by omega)) Z1)))
 have keep:∀c o,c≠b+4->c≠b+3->c≠b->c≠b+1->s.heap.get? c=some o->g5.get? c=some o:=λc o c1 c2 c3 c4 e=>
  f5.extBut _ _ c2 (f4.extBut _ _ c4 (f3.extBut _ _ c2 (f2.extBut _ _ c3 (f1.extBut _ _ c1 e))))
 have m1:IsTupIter g5 b l1 (k+1):=((v1.extBut f3.extBut (adr (by omega))).extBut f4.extBut (adr (by omega))).extBut f5.extBut (adr (by omega))
 have m2:IsTupIter g5 (b+1) l2 (k+1):=v2.extBut f5.extBut (adr (by omega))
 have zlt:b+4<g5.objs.size:=lt_size Z5
 show wpAny _ _ (Builtin.SmallTypes.ownedTupleHandOut (.ref (b+4)) (.ref g5.objs.size) >>= _) _ _ _
 refine wpAny_bind ?_
 unfold Builtin.SmallTypes.ownedTupleHandOut
 have Z8:Zt (g5.push {cls:=.type "tuple",data:=.seq #[x,y]}) b .ellipsis:=get?_push_of_some _ Z5
 refine wpAny_bind (wpAny_setField_rec Z8 (by simp) λg9 Z9 f9=>?_)
 replace Z9:Zt g9 b (rawInt g5.objs.size):=Z9
 refine wpAny_setField_rec Z9 (by simp) λg10 Z10 f10=>?_
 replace Z10:Zt g10 b (rawInt g5.objs.size):=Z10
 have up:∀c o,c≠b+4->g5.get? c=some o->g10.get? c=some o:=λc o c1 e=>f10.extBut _ _ c1 (f9.extBut _ _ c1 (get?_push_of_some _ e))
 have T10:P2 g10 g5.objs.size x y:=f10.extBut _ _ (ne_of_gt zlt) (f9.extBut _ _ (ne_of_gt zlt) (get?_push_size _ rfl))
 have sz10:g10.objs.size=g5.objs.size+1:=by rw[f10.1,f9.1,size_push]
 rw[size]at Z10 T10 sz10
 refine wpAny_pure ⟨_,rfl,?_⟩
 show Q (.ref g5.objs.size) _
 rw[size]
 exact q g10 Z10 (up _ _ (adr (by omega)) O5) (tupIter_here m1 λo e=>up _ o (adr (by omega)) e) (tupIter_here m2 λo e=>up _ o (adr (by omega)) e) T10 sz10 λc o c1 c2 c3 c4 e=>up c o c1 (keep c o c1 c2 c3 c4 e)
theorem zipT_stop {b k:Nat}{l1:Addr}{xs:Array Value}{i2:Value}{Q:Fin->Shared->Prop}(hh:A.handled=none)(hb:l1<b)(Z:Zt s.heap b .none)(I0:P2 s.heap (b+2) (.ref b) i2)(w1:IsTupIter s.heap b l1 k)(p1:IsTup s.heap l1 xs)(e1:xs[k]?=none)
  (q:∀g e,(∀c o,c≠b+4->c≠b->s.heap.get? c=some o->g.get? c=some o)->(∃o,g.get? e=some o/\o.cls = .type "StopIteration")->E (.ref e) {s with heap:=g}):wpAny (model prog w) A (Builtin.«zip.__next__» ⟨[.ref (b+4)],[]⟩) Q E s:=by
 have a14:l1≠b+4:=ne_of_lt (lt_of_lt_of_le hb (Nat.le_add_right b 4))
 show wpAny _ _ (field (.ref (b+4)) 2 >>= _) _ _ _
 refine wpAny_bind (wpAny_field Z rfl (x:=.bool false) rfl ?_)
 show wpAny _ _ (field (.ref (b+4)) 3 >>= _) _ _ _
 refine wpAny_bind (wpAny_field Z rfl (x:=.ref (b+2)) rfl (wpAny_bind (wpAny_seqItems I0 rfl ?_)))
 show wpAny _ _ (Builtin.SmallTypes.ownedTupleIsFree (.ref (b+4)) >>= _) _ _ _
 refine wpAny_bind ?_
 unfold Builtin.SmallTypes.ownedTupleIsFree
 refine wpAny_bind (wpAny_field Z rfl (x:=.none) rfl (wpAny_pure ?_));simp only[if_true]
 refine wpAny_bind (wpAny_rule (wpAny_bind (wpAny_field Z rfl (x:=.ref (b+3)) rfl (wpAny_bind (wpAny_setField_rec Z (by simp) λg1 Z1 f1=>?_)))))
 replace Z1:Zt g1 b .ellipsis:=Z1
 refine wpAny_bind ?_
 simp only[forIn_cons,List.forIn_nil,List.zipIdx_cons,List.zipIdx_nil]
 refine wpAny_bind (wpAny_bind (wpAny_onRaise ?_))
 show wpAny _ _ (Builtin.SmallTypes.nextOf (.ref b) >>= _) _ _ _
 refine wpAny_bind (nextT_end hh (w1.extBut f1.extBut (adr (by omega))) (p1.extBut f1.extBut a14) e1 λg2 e f2 he=>?_)
 obtain⟨oe,o1,o2⟩:=he
 have Z2:Zt g2 b .ellipsis:=f2 _ _ (adr (by omega)) Z1
 have ez:e≠b+4:=λy=>by subst y;rw[Z2]at o1;cases o1;simp at o2
 exact wpAny_setField_rec Z2 (by simp) λg3 _ f3=>q g3 e (λc o c1 c3 y=>f3.extBut _ _ c1 (f2 _ _ c3 (f1.extBut _ _ c1 y))) ⟨oe,f3.extBut _ _ ez o1,o2⟩
theorem nx_zipT {b k:Nat}{l1 l2:Addr}{xs ys:Array Value}{x y a1 a2:Value}{Q:Option Value->Shared->Prop}(hb:l1<b/\l2<b)
  (Z:Zt s.heap b .none) (I0:P2 s.heap (b+2) (.ref b) (.ref (b+1))) (O0:P2 s.heap (b+3) a1 a2) (w1:IsTupIter s.heap b l1 k) (w2:IsTupIter s.heap (b+1) l2 k)
  (p1:IsTup s.heap l1 xs) (p2:IsTup s.heap l2 ys) (e1:xs[k]?=some x) (e2:ys[k]?=some y)
  (q:∀g,Zt g b (rawInt s.heap.objs.size)->P2 g (b+3) x y->IsTupIter g b l1 (k+1)->IsTupIter g (b+1) l2 (k+1)->P2 g s.heap.objs.size x y->g.objs.size=s.heap.objs.size+1->
   (∀c o,c≠b+4->c≠b+3->c≠b->c≠b+1->s.heap.get? c=some o->g.get? c=some o)->Q (some (.ref s.heap.objs.size)) {s with heap:=g}):wpAny (model prog w) A (pyNext (.ref (b+4))) Q E s:=by
 have tz:s.TypeIs (.ref (b+4)) "zip":=⟨_,Z,rfl⟩
 unfold pyNext
 exact wpAny_bind (wpAny_attempt (wpAny_callSpecial?_slot (name:=Str.ofString "__next__") tz F.slot_zip_next (wpAny_call_entry F.slot_zip_next tz F.entry_zip_next
  (zipT_step hb Z I0 O0 w1 w2 p1 p2 e1 e2 λg c1 c2 c3 c4 c5 c6 c7=>wpAny_pure (q g c1 c2 c3 c4 c5 c6 c7)) (F.args_zip_next_1 _))))
theorem nx_zipT_end {b k:Nat}{l1:Addr}{xs:Array Value}{i2:Value}{Q:Option Value->Shared->Prop}(hh:A.handled=none)(hb:l1<b)(Z:Zt s.heap b .none)(I0:P2 s.heap (b+2) (.ref b) i2)(w1:IsTupIter s.heap b l1 k)(p1:IsTup s.heap l1 xs)(e1:xs[k]?=none)
  (q:∀g,(∀c o,c≠b+4->c≠b->s.heap.get? c=some o->g.get? c=some o)->Q none {s with heap:=g}):wpAny (model prog w) A (pyNext (.ref (b+4))) Q E s:=by
 have tz:s.TypeIs (.ref (b+4)) "zip":=⟨_,Z,rfl⟩
 unfold pyNext
 refine wpAny_bind (wpAny_attempt (wpAny_callSpecial?_slot (name:=Str.ofString "__next__") tz F.slot_zip_next (wpAny_call_entry F.slot_zip_next tz F.entry_zip_next (zipT_stop hh hb Z I0 w1 p1 e1 λg e k1 k2=>?_) (F.args_zip_next_1 _))))
 obtain⟨o,o1,o2⟩:=k2
 exact wpAny_bind (wpAny_isInstance (T := "StopIteration") (b:=true) ⟨o,o1,o2⟩ isSubtype_stop (wpAny_pure (q _ k1)))
end
abbrev wot (l:Addr):Obj:={cls:=.type "tuple_iterator",data:=.fields #[.ref l,.int 0 0]}
abbrev ztp (h:Heap)(l1:Addr):Heap:=h.push (wot l1)
abbrev ztq (h:Heap)(l1 l2:Addr):Heap:=(ztp h l1).push (wot l2)
abbrev zts (h:Heap)(l1 l2:Addr):Heap:=(ztq h l1 l2).push {cls:=.type "tuple",data:=.seq #[.ref h.objs.size,.ref (ztp h l1).objs.size]}
abbrev ztt (h:Heap)(l1 l2:Addr):Heap:=(zts h l1 l2).push {cls:=.type "tuple",data:=.seq #[.none,.none]}
abbrev ztu (h:Heap)(l1 l2:Addr):Heap:=(ztt h l1 l2).push {cls:=.type "zip",data:=.fields #[.none,.bool false,.bool false,.ref (ztq h l1 l2).objs.size,.ref (zts h l1 l2).objs.size]}
theorem zipT_new (l1 l2:Addr)(xs ys:Array Value):Meets (Builtin.«zip.__new__» ⟨[.type "zip",.ref l1,.ref l2],[]⟩) (λ_ R s=>IsTup s.heap l1 xs/\IsTup s.heap l2 ys/\R (.ok (.ret (.ref (ztt s.heap l1 l2).objs.size))) {s with heap:=ztu s.heap l1 l2}):=
 .of_wp λprog w A R s h=>by
  obtain⟨hp,g,d,tk,os⟩:=s;obtain⟨p1,p2,h⟩:=h
  have hsub:=sub_zip
  have n1:IsTup (Shared.heap ⟨hp,g,d,tk,os⟩) l1 xs:=p1
  have n2:IsTup (Shared.heap ⟨hp.push (wot l1),g,d,tk,os⟩) l2 ys:=IsTup.push p2 _
  wp_walk using iter_tuple n1,iter_tuple n2
  exact⟨_,rfl,h⟩
theorem call_zipT {prog:Program}{w:World}{A:Around}{E:Value->Shared->Prop}{s:Shared}{l1 l2:Addr}{xs ys:Array Value}{Q:Value->Shared->Prop}(p1:IsTup s.heap l1 xs)(p2:IsTup s.heap l2 ys)
  (q:∀g,Zt g s.heap.objs.size .none->P2 g (s.heap.objs.size+2) (.ref s.heap.objs.size) (.ref (s.heap.objs.size+1))->P2 g (s.heap.objs.size+3) .none .none->IsTupIter g s.heap.objs.size l1 0->IsTupIter g (s.heap.objs.size+1) l2 0->
   (∀c o,s.heap.get? c=some o->g.get? c=some o)->Q (.ref (s.heap.objs.size+4)) {s with heap:=g}):wpAny (model prog w) A (call (.type "zip") [.ref l1,.ref l2]) Q E s:=by
 refine callType_new F.called_zip (by decide) (F.typeCall_zip_2 _ _) (F.newCall_zip_2 _ _) (λo=>F.args_object_init_3 o _ _) F.entry_zip_new (zipT_new l1 l2 xs ys) ⟨p1,p2,?_⟩
 have y1:(ztp s.heap l1).objs.size=s.heap.objs.size+1:=size_push ..
 have y2:(ztq s.heap l1 l2).objs.size=s.heap.objs.size+2:=by rw[size_push,y1]
 have y3:(zts s.heap l1 l2).objs.size=s.heap.objs.size+3:=by rw[size_push,y2]
 have y4:(ztt s.heap l1 l2).objs.size=s.heap.objs.size+4:=by rw[size_push,y3]
 have on:∀{h:Heap} {o o':Obj} {c:Addr},h.get? c=some o->(h.push o').get? c=some o:=λe=>get?_push_of_some _ e
 have k5:(ztu s.heap l1 l2).get? (ztt s.heap l1 l2).objs.size=some _:=get?_push_size _ rfl
 have k4:(ztu s.heap l1 l2).get? (zts s.heap l1 l2).objs.size=some _:=on (get?_push_size _ rfl)
 have k3:(ztu s.heap l1 l2).get? (ztq s.heap l1 l2).objs.size=some _:=on (on (get?_push_size _ rfl))
 have k2:(ztu s.heap l1 l2).get? (ztp s.heap l1).objs.size=some _:=on (on (on (get?_push_size _ rfl)))
 have k1:(ztu s.heap l1 l2).get? s.heap.objs.size=some _:=on (on (on (on (get?_push_size _ rfl))))
 show _/\_
 rw[y2,y3,y4]at k5
 rw[y3]at k4
 rw[y1,y2]at k3
 rw[y1]at k2
 rw[y4]
 exact⟨⟨_,k5,rfl⟩,q _ k5 k3 k4 ⟨_,k1,rfl,rfl⟩ ⟨_,k2,rfl,rfl⟩ λc o e=>on (on (on (on (on e))))⟩
def dZipT (As:DA):DA:=λG P=>As G λds=>match ds with
 | [.tup xs,.tup ys]=>xs.length<=ys.length/\P ((xs.zip ys).map λp=>D.tup [p.1,p.2])
 |_=>False
section
variable {X:Cx}{K:Frag}{mg:Str->Option Value}
def ItzT (K:Frag)(a1 a2:Addr)(xs ys:List V):It:=
 ⟨λi H=>SqT K H a1 xs/\SqT K H a2 ys/\i<xs.length/\i<ys.length,λi H x H'=>∃p y1 y2,x = .ref p/\H p=none/\Same H H'/\xs[i]?=some y1/\ys[i]?=some y2/\H' p=some (.tup [y1,y2]),λi H=>SqT K H a1 xs/\xs.length<=i⟩
theorem fivT {b c:Nat}(h:c∈[b+4,b+2,b+3,b,b+1]):c=b+4∨c=b+2∨c=b+3∨c=b∨c=b+1:=by simpa using h
theorem turn_zipT {P:Program}{w:World}{K:Frag}{elts:List Expr}{x1:Nat}{tpos:Pos}(a1 a2:Addr)(b:Nat)(xs ys:List V)(hb:a1<b/\a2<b):
  Turn P w K (.Tuple elts x1 tpos) (ItzT K a1 a2 xs ys) [b+4,b+2,b+3,b,b+1] (b+4) (λi h=>Zt h b .none/\P2 h (b+2) (.ref b) (.ref (b+1))/\(∃c d,P2 h (b+3) c d)/\IsTupIter h b a1 i/\IsTupIter h (b+1) a2 i) where
 mem:=by simp
 obj:=λi h st c hc=>by
  obtain⟨h1,h2,⟨_,_,h3⟩,⟨o4,q4,_,r4⟩,⟨o5,q5,_,r5⟩⟩:=st
  rcases fivT hc with q |q |q |q |q
  .rw [q];exact⟨_,h1,λv q=>by cases q⟩
  .rw [q];exact⟨_,h2,λv q=>by cases q⟩
  .rw [q];exact⟨_,h3,λv q=>by cases q⟩
  .rw [q];exact⟨_,q4,λv q=>by rw[r4]at q;cases q⟩
  .rw [q];exact⟨_,q5,λv q=>by rw[r5]at q;cases q⟩
 keep:=λi h h' st k=>by
  obtain⟨h1,h2,⟨c,d,h3⟩,h4,h5⟩:=st
  exact⟨k _ (by simp) _ h1,k _ (by simp) _ h2,⟨c,d,k _ (by simp) _ h3⟩,tupIter_here h4 λo q=>k _ (by simp) o q,tupIter_here h5 λo q=>k _ (by simp) o q⟩
 item := by
  kj_on
  obtain⟨h1,h2,⟨c,d,h3⟩,h4,h5⟩:=st
  obtain⟨hq1,hq2,hi1,hi2⟩:=hg
  obtain⟨its1,rv1,p1,hz1⟩:=I.tuple hq1
  obtain⟨its2,rv2,p2,hz2⟩:=I.tuple hq2
  obtain⟨u1,hu1,ru1⟩:=rv1.get (i:=i) (x:=xs[i]) (by simp[hi1])
  obtain⟨u2,hu2,ru2⟩:=rv2.get (i:=i) (x:=ys[i]) (by simp[hi2])
  refine nx_zipT hb h1 h2 h3 h4 h5 p1 p2 (x:=u1) (y:=u2) (by simpa using hu1) (by simpa using hu2) λh' g1 g2 g3 g4 g6 g7 g8=>?_
  refine⟨_,rfl,wpAny_letOwnedTupleGo_zip g1 λh'' k1 k2=>?_⟩
  have hf':=I.hok.fresh (Nat.le_refl _)
  have I0:Inv X pins Y (upd H s.heap.objs.size (.tup [xs[i],ys[i]])) {s with heap:=s.heap.push {cls:=.type "tuple",data:=.seq #[u1,u2]},toks:=s.toks}:=
   I.laid (t':=s.toks) (o:=.tup [xs[i],ys[i]]) (λb ob q=>get?_push_of_some _ q) (Nat.le_refl _) ⟨sz_le (n:=2) (by decide),[u1,u2],.cons ru1 (.cons ru2 .nil),⟨_,get?_push_size _ rfl,rfl,_,rfl⟩⟩
  have old:∀c∈[b+4,b+2,b+3,b,b+1],c≠s.heap.objs.size:=λc hc q=>by
   have hlt:c<s.heap.objs.size:=by
    rcases fivT hc with y |y |y |y |y
    .rw [y];exact lt_size h1
    .rw [y];exact lt_size h2
    .rw [y];exact lt_size h3
    .obtain ⟨o,r1,_⟩:=h4
     rw[y];exact lt_size r1
    .obtain ⟨o,r1,_⟩:=h5
     rw[y];exact lt_size r1
   rw[q]at hlt
   exact lt_irrefl _ hlt
  have fe:∀c∈[b+4,b+2,b+3,b,b+1],FpOk X pins (upd H s.heap.objs.size (.tup [xs[i],ys[i]])) c:=λc hc=>by
   obtain⟨q0,q1,q2,q3,q4,q5⟩:=hf c hc
   refine⟨?_,q1,q2,q3,q4,q5⟩
   rw[upd_ne]
   .exact q0
   .exact old c hc
  have I1 : Inv X pins Y (upd H s.heap.objs.size (.tup [xs[i],ys[i]])) {s with heap:=h'',toks:=s.toks}:=by
   have:=I0.turnedL (h':=h'') (t':=s.toks) (L:=[b+4,b+3,b,b+1]) (λc o hb q=>?_) (λc hc=>fe c (by
    have hc':c=b+4∨c=b+3∨c=b∨c=b+1:=by simpa using hc
    rcases hc' with y |y |y |y<;>simp[y]))
   .exact this
   .have bz:c≠b+4:=λy=>hb (by simp[y])
    have hb2:h'.get? c=some o:=by
     by_cases y:c=s.heap.objs.size
     .subst y
      rw[get?_push_size _ rfl]at q
      rw[<- q];exact g6
     .rw [Heap.get?_push_ne _ _ _ y]at q
      exact g8 c o bz (λy=>hb (by simp[y])) (λy=>hb (by simp[y])) (λy=>hb (by simp[y])) q
    exact k2.extBut c o bz hb2
  have hT:P2 h' (b+2) _ _:=g8 (b+2) _ (adr (by omega)) (adr (by omega)) (adr (by omega)) (adr (by omega)) h2
  refine⟨.ref s.heap.objs.size,_,I1,rfl,⟨_,xs[i],ys[i],rfl,hf',Same.new hf',by simp[hi1],by simp[hi2],upd_same⟩,⟨k1,k2.extBut _ _ (adr (by omega)) hT,⟨_,_,k2.extBut _ _ (adr (by omega)) g2⟩,g3.extBut k2.extBut (adr (by omega)),g4.extBut k2.extBut (adr (by omega))⟩,λc hc=>(fe c hc).1⟩
 done:=by
  kj_on
  obtain⟨h1,h2,_,h4,_⟩:=st
  obtain⟨hq1,hi⟩:=hg
  obtain⟨its1,rv1,p1,hz1⟩:=I.tuple hq1
  have hl1:=rv1.length
  refine nx_zipT_end (I.ok.hd hc) hb.1 h1 h2 h4 p1 (by simp;omega) λh' eb=>⟨rfl,I.turnedL (t':=s.toks) (L:=[b+4,b]) (λc o hb q=>eb c o (λy=>hb (by simp[y])) (λy=>hb (by simp[y])) q) (λc hc=>hf c (by
    have hc':c=b+4∨c=b:=by simpa using hc
    rcases hc' with y |y<;>simp[y]))⟩
 self:=λ_ _ _ _ _ st h=>by
  obtain⟨h1,_⟩:=st
  exact wpAny_pyIter_zip h1 h
def iZipT (K:Frag)(ta:TA):TI:=λY H R=>ta Y H λvs H1=>∃a1 a2 xs ys,vs=[.ref a1,.ref a2]/\SqT K H1 a1 xs/\SqT K H1 a2 ys/\R (ItzT K a1 a2 xs ys) H1
theorem pi_zipT {elts:List Expr}{x1:Nat}{tpos:Pos}{l m:Expr}{ta:TA}{p pos:Pos}(hg:Gl X "zip")(hm:X.mg "zip"=none)(ha:PA X [l,m] ta)(hs:starEach [l,m] X.env=(false,eval l X.env)::starEach [m] X.env:=by rfl)(hp:(backTo pos (starEach [m] X.env)).any (·.1)=false:=by rfl):PI X (.Tuple elts x1 tpos) (.Call (.Name "zip" p) [l,m] [] pos) (iZipT X.K ta):=by
 intro pins s Y H R I h
 refine Call_ (ld_blt I hg hm PyProof.Rows.boot_zip (PyProof.Rows.callWith_type1 (thn (ha pos pins s Y H _ I h) λus s1 ⟨vs,H1,I1,r1,q1⟩=>?_) hs hp))
 obtain⟨a1,a2,xs,ys,e,hq1,hq2,q⟩:=q1
 subst e
 obtain⟨u1,u2,rfl,ru1,ru2⟩:=vals2 r1
 cases ru1
 cases ru2
 obtain⟨its1,rv1,pt1,hz1⟩:=I1.tuple hq1
 obtain⟨its2,rv2,pt2,hz2⟩:=I1.tuple hq2
 refine call_zipT pt1 pt2 λh' g1 g2 g3 g4 g5 g7=>?_
 have I2:Inv X pins Y H1 {s1 with heap:=h',toks:=s1.toks}:=I1.kept (t':=s1.toks) g7
 refine wpAny_pyIter_zip (s:={s1 with heap:=h',toks:=s1.toks}) g1 ?_
 refine⟨s1.heap.objs.size+4,_,_,_,H1,rfl,I2,turn_zipT a1 a2 s1.heap.objs.size xs ys ⟨pt1.lt,pt2.lt⟩,⟨g1,g2,⟨_,_,g3⟩,g4,g5⟩,λc hc=>?_,q⟩
 have hle:s1.heap.objs.size<=c:=by
  rcases fivT hc with y |y |y |y |y<;>(rw[y];first |exact Nat.le_add_right _ _ |exact Nat.le_refl _)
 exact I1.fpOk hle (I1.hok.fresh hle)
theorem sI_zipT {a:TA}{As:DA}(h:SimAF K a As):SimI K (iZipT K a) (dZipT As):=λF0 H0 F H Y G P R e w q=>h F0 H0 F H Y G _ _ e w λds vs F' H' p x r=>by
 try dsimp only at p
 split at p
 .rename_i xs ys
  obtain⟨le1,p⟩:=p
  obtain⟨v1,v2,rfl,⟨a1,us1,rfl,h1,h2⟩,⟨a2,us2,rfl,k1,k2⟩⟩:=reps2 r
  have hl1:=h2.length
  have hl2:=k2.length
  refine⟨a1,a2,us1,us2,rfl,x.fh.seqT h1,x.fh.seqT k1,q _ _ F' H' p x λF1 H1 s1 s2=>?_⟩
  have hq1:=(s1.trans s2).seqT h1
  have hq2:=(s1.trans s2).seqT k1
  have hlen:((xs.zip ys).map λp=>D.tup [p.1,p.2]).length=xs.length:=by simp;omega
  rw[hlen]
  refine⟨λi hi=>⟨hq1,hq2,by omega,by omega⟩,⟨hq1,by omega⟩,λi x H2 hi y=>?_⟩
  obtain⟨t,y1,y2,rfl,ht,sm,hy1,hy2,ht2⟩:=y
  obtain⟨d1,hd1,rd1⟩:=h2.get' hy1
  obtain⟨d2,hd2,rd2⟩:=k2.get' hy2
  refine⟨.tup [d1,d2],upd F1 t (.tup [y1,y2]),?_,Ext.new s2 ht sm ht2,t,[y1,y2],rfl,.inl (.inl upd_same),?_⟩
  .rw [getElem?_map,List.getElem?_zip_eq_some (z:=(d1,d2)) |>.mpr ⟨hd1,hd2⟩]
   rfl
  .exact ⟨_,_,rfl,(rd1.mono s1).mono (Same.upd' (s2.free ht)),_,_,rfl,(rd2.mono s1).mono (Same.upd' (s2.free ht)),rfl⟩
 .exact p.elim
end
section
variable {X:Cx}{K:Frag}{x:Str}{kds:List (Str×D)}{i:Expr}{ty:TE}{pos pos':Pos}
end
section
variable {M:Model}{A:Around}{E:Value->Shared->Prop}{s:Shared}
end
section
variable {X:Cx}{pins:List (Addr×Obj)}{Y:St}{H:Hp}{s:Shared}{scope:Scope}{N:List Str}{ix:List (Option Nat)}{fp:List Addr}{z:Str}
end
section
variable {X:Cx}{tg elt iter:Expr}{scope:Scope}{N:List Str}{ix:List (Option Nat)}{wi:TI}{g:TG}{te:TE}{pos:Pos}{z:Str}
end
section
variable {X:Cx}
end
section
variable {K:Frag}
end
def g1 {α:Type}(l r:List α):List α->List α->List α
 | [a],[b]=>a::(l++b::r)
 |_,_=>[]
section
variable {P:Program}{w:World}{K:Frag}{mg:Str->Option Value}{base:Heap}{x:Str}{k:Nat}{ps:List Str}{sp:Sp}{d0 d1:V}
end
section
variable {X:Cx}{x:Str}{k:Nat}{ps:List Str}{sp:Sp}{d0 d1:V}{e c:Expr}{t tk:TA}{p pos kp:Pos}{nm:Str}
end
section
variable {K:Frag}
end
section
variable {K:Frag}
end
section
variable {K:Frag}{F0 H0 F H F' H':Hp}{Y:St}{G:Dst}{A:Nat->List Addr}{i:Nat}
theorem ER.swap {t t':OV}{v:V}{Bn:List Addr}(e:ER K F0 H0 F H Y G A)(hs:G[i]?=some (some (.own t)))(hσ:Y[i]?=some (some v))(sF:Same F F')(sH:Same F' H')(keep:∀b o,b∉A i->H b=some o->H' b=some o)
  (nofz:∀b o,F b=none->H b=some o->imm o=false->b∉A i->F' b=none) (r:RepO K F' H' t' v Bn) (nd:Bn.Nodup) (nw:∀b∈Bn,F' b=none/\(b∈A i∨H b=none)):EnvR K F0 H0 F' H' Y (G.set i (some (.own t'))):=by
 have hlt:i<G.length:=(List.getElem?_eq_some_iff.mp hs).1
 refine⟨λj=>if j=i then Bn else A j,?_⟩
 refine⟨by simp[e.len],⟨e.ext.ff.trans sF,λb o h=>?_,sH,λb o h1 h2 h3=>?_⟩,λj t hj=>?_,λj d hj=>?_,λj=>?_,λj k b hjk h1 h2=>?_,λj b hb=>?_⟩
 .exact keep b o (λz=>by rw[(e.new i b z).2.1]at h;cases h) (e.ext.hh _ _ h)
 .exact nofz b o (e.ext.no b o h1 h2 h3) (e.ext.hh _ _ h2) h3 (λz=>by rw[(e.new i b z).2.1]at h2;cases h2)
 .try dsimp only
  by_cases z:j=i
  .subst z
   rw[if_pos rfl]
   rw[getElem?_set_self hlt]at hj
   cases hj
   exact⟨_,hσ,r⟩
  .rw [if_neg z]
   rw[getElem?_set_ne (Ne.symm z)]at hj
   obtain⟨u,h1,h2⟩:=e.own j t hj
   exact⟨u,h1,h2.frame sF λb hb xs q=>keep b _ (λy=>e.dis j i b z hb y) q⟩
 .by_cases z:j=i
  .subst z
   rw[getElem?_set_self hlt]at hj
   cases hj
  .rw [getElem?_set_ne (Ne.symm z)]at hj
   exact e.bw j d hj
 .try dsimp only
  split
  .exact nd
  .exact e.nod j
 .try dsimp only at h1 h2
  have key:∀k,k≠i->b∈Bn->b∈A k->False:=λk hk z1 z2=>by
   rcases (nw b z1).2 with y |y
   .exact e.dis k i b hk z2 y
   .obtain ⟨_,_,xs,q,_⟩:=e.new k b z2
    rw[y]at q;cases q
  split at h1
  .split at h2
   .omega
   .rename_i z1 z2
    exact key k z2 h1 h2
  .split at h2
   .rename_i z1 z2
    exact key j z1 h2 h1
   .exact e.dis j k b hjk h1 h2
 .try dsimp only at hb
  split at hb
  .have hh:H0 b=none:=by
    rcases (nw b hb).2 with y |y
    .exact (e.new i b y).2.1
    .exact e.ext.hh.free y
   exact⟨(nw b hb).1,hh,r.isl b hb⟩
  .rename_i z
   obtain⟨h1,h2,xs,h3,himm⟩:=e.new j b hb
   have hni:b∉A i:=λy=>e.dis j i b z hb y
   exact⟨nofz b _ h1 h3 himm hni,h2,xs,keep b _ hni h3,himm⟩
end
def sMethF (c:Str)(ns:List Str)(i j:Nat)(c2:Str)(ns2:List Str)(n:Nat)(sp:DMo)(As:DA):DS:=λDe G=>match G[i]? with
 |some (some (.own (.ob o c' ns' ts)))=>c'=c/\ns'=ns/\∃o2 ts2,ts[j]?=some (.ob o2 c2 ns2 ts2)/\As G λds=>ds.length+1=n/\sp ts2 ds λts'=>De.nx (G.set i (some (.own (.ob o c ns (ts.set j (.ob o2 c2 ns2 ts'))))))
 |_=>False
section
variable {K:Frag}{c f m c2:Str}{ns ns2:List Str}{i j:Nat}
theorem sS_methF {n:Nat}{sp:DMo}{a:TA}{As:DA}(CV:ClsV K c ns)(CV2:ClsV K c2 ns2)(hf:ns[j]?=some f)(hm:m∉ns2)(ha:SimAF K a As):SimS K (tDrop (tMethN K c2 m (spM K n c2 ns2 sp) (tFld K (tVar i) f) a)) (sMethF c ns i j c2 ns2 n sp As):=λF0 H0 F H Y G De En e l w=>by
 unfold sMethF at w
 split at w
 .rename_i o c' ns' ts hs
  obtain⟨rfl,rfl,o2,ts2,hx,w⟩:=w
  obtain⟨A,e⟩:=e
  obtain⟨v,hv,p,C,dx,vs,B,rfl,eA,h0,ho,h1,h2,hl,h3⟩:=e.own i _ hs
  obtain⟨C',hC',cl,na⟩:=CV.ex
  rw[h0]at hC'
  cases hC'
  obtain⟨v0,A1,B0,A2,f1,rfl,f3,f4⟩:=h3.focus hx
  obtain⟨p2,C2,dx2,vs2,B2,rfl,rfl,h02,ho2,h12,h22,hl2,h32⟩:=f3
  refine⟨C2,h02,_,hv,p,C,dx,_,.ref p2,rfl,h1,cl,na f (mem_of_getElem? hf),(by rw[lk_zip CV.nd hf];exact f1),p2,dx2,_,rfl,h12,lk_zip_none hm,?_⟩
  refine ha F0 H0 F H Y G _ _ ⟨A,e⟩ w λds us F1 H1 w1 x1 r1=>?_
  show spM K n c2 ns2 sp (V.ref p2::(us++[])) H1 (λ_ H2=>En.nx Y H2) E0
  rw[append_nil]
  have e1:=e.on x1
  have hnd:=e.nod i
  rw[eA]at hnd
  obtain⟨n1,n2⟩:=nodup_cons.mp hnd
  obtain⟨n3,n4⟩:=nodup_cons.mp n2
  obtain⟨m1,m2,m3⟩:=nodup_append.mp n4
  obtain⟨q1,q2,q3⟩:=nodup_append.mp m2
  have inA:∀b,b∈p2::dx2::B2->b∈A i:=λb hb=>by
   rw[eA]
   exact mem_cons_of_mem _ (mem_cons_of_mem _ (mem_append_right _ (mem_append_left _ hb)))
  refine⟨by rw[length_cons,<- r1.length];exact w1.1,F1,p2,C2,dx2,ts2,vs2,B2,us,ds,_,rfl,h02,e1.ext.fh,x1.hh _ _ h12,x1.hh _ _ h22,hl2,h32.frame x1.ff λb _ xs z=>x1.hh _ _ z,q1,λb hb=>(e1.new i b (inA b hb)).1,r1,w1.2,?_⟩
  intro ts' F' H' dx' vs' B' pt sF sH keep nofz hp' hd' hl' hB' nd' nw'
  have off:∀b,b∈A1++A2->b∉p2::dx2::B2:=λb hb z=>by
   rcases mem_append.mp hb with y |y
   .exact m3 b y b (mem_append_left _ z) rfl
   .exact q3 b z b y rfl
  have hpn:p∉p2::dx2::B2:=λz=>n1 (mem_cons_of_mem _ (mem_append_right _ (mem_append_left _ z)))
  have hdn:dx∉p2::dx2::B2:=λz=>n3 (mem_append_right _ (mem_append_left _ z))
  have f4':=f4 F' H' (.ob o2 c2 ns2 ts') (.ref p2) (p2::dx'::B') (x1.ff.trans sF) (λb hb xs z=>keep b _ (off b hb) (x1.hh _ _ z)) ⟨p2,C2,dx',vs',B',rfl,rfl,h02,ho2,hp',hd',hl',hB'⟩
  rw[set_self_of f1]at f4'
  have fresh:∀b,b∈p2::dx'::B'->b∉p2::dx2::B2->H1 b=none:=λb hb hn=>by
   rcases (nw' b hb).2 with y |y
   .exact absurd y hn
   .exact y
  have hold:∀b,b∈A i->∃xs,H1 b=some xs:=λb hb=>by
   obtain⟨_,_,xs,q,_⟩:=e1.new i b hb
   exact⟨xs,q⟩
  have hin:∀b,b∈p::dx::(A1++A2)->b∈A i:=λb hb=>by
   rw[eA]
   rcases mem_cons.mp hb with y |y
   .simp [y]
   .rcases mem_cons.mp y with y |y
    .simp [y]
    .rcases mem_append.mp y with y |y<;>simp[y]
  have apart:∀b,b∈p::dx::(A1++A2)->b∉p2::dx'::B':=λb hb z=>by
   have hn:b∉p2::dx2::B2:=by
    rcases mem_cons.mp hb with y |y
    .rw [y];exact hpn
    .rcases mem_cons.mp y with y |y
     .rw [y];exact hdn
     .exact off b y
   obtain⟨xs,hxs⟩:=hold b (hin b hb)
   rw[fresh b z hn]at hxs
   cases hxs
  refine l.nx F' H' Y _ (e1.swap hs hv sF sH (λb o' hb z=>keep b o' (λy=>hb (inA b y)) z) (λb o' z1 z2 z3 z4=>nofz b o' z1 z2 z3 λy=>z4 (inA b y)) (t':=.ob o c' ns' (ts.set j (.ob o2 c2 ns2 ts'))) (Bn:=p::dx::(A1++((p2::dx'::B')++A2)))
   ⟨p,C,dx,vs,A1++((p2::dx'::B')++A2),rfl,rfl,h0,ho,keep _ _ hpn (x1.hh _ _ h1),keep _ _ hdn (x1.hh _ _ h2),by rw[length_set];exact hl,f4'⟩ ?_ ?_) pt
  .have nm:(A1++((p2::dx'::B')++A2)).Nodup:=by
    refine nodup_append.mpr ⟨m1,nodup_append.mpr ⟨nd',q2,λx hx y hy z=>?_⟩,λx hx y hy z=>?_⟩
    .exact apart y (mem_cons_of_mem _ (mem_cons_of_mem _ (mem_append_right _ hy))) (z▸hx)
    .rcases mem_append.mp hy with y' |y'
     .exact apart x (mem_cons_of_mem _ (mem_cons_of_mem _ (mem_append_left _ hx))) (z▸y')
     .exact m3 x hx y (mem_append_right _ y') z
   have mid:∀b,b∈A1++((p2::dx'::B')++A2)->b∈A1++A2∨b∈p2::dx'::B':=λb hb=>by
    rcases mem_append.mp hb with y |y
    .exact .inl (mem_append_left _ y)
    .rcases mem_append.mp y with y |y
     .exact .inr y
     .exact .inl (mem_append_right _ y)
   have up:∀b,b∈A1++A2->b∈A1++((p2::dx2::B2)++A2):=λb hb=>by
    rcases mem_append.mp hb with y |y
    .exact mem_append_left _ y
    .exact mem_append_right _ (mem_append_right _ y)
   refine nodup_cons.mpr ⟨λz=>?_,nodup_cons.mpr ⟨λz=>?_,nm⟩⟩
   .rcases mem_cons.mp z with z |z
    .exact n1 (by rw[z];exact mem_cons_self)
    .rcases mid p z with y |y
     .exact n1 (mem_cons_of_mem _ (up p y))
     .exact apart p mem_cons_self y
   .rcases mid dx z with y |y
    .exact n3 (up dx y)
    .exact apart dx (mem_cons_of_mem _ mem_cons_self) y
  .intro b hb
   have old:b∈p::dx::(A1++A2)->F' b=none/\(b∈A i∨H1 b=none):=λy=>by
    have hn:b∉p2::dx2::B2:=by
     rcases mem_cons.mp y with y |y
     .rw [y];exact hpn
     .rcases mem_cons.mp y with y |y
      .rw [y];exact hdn
      .exact off b y
    obtain⟨g1,g2,xs,g3,g4⟩:=e1.new i b (hin b y)
    exact⟨nofz b _ g1 g3 g4 hn,.inl (hin b y)⟩
   rcases mem_cons.mp hb with y |y
   .exact old (by rw[y];exact mem_cons_self)
   .rcases mem_cons.mp y with y |y
    .exact old (by rw[y];exact mem_cons_of_mem _ mem_cons_self)
    .rcases mem_append.mp y with y |y
     .exact old (mem_cons_of_mem _ (mem_cons_of_mem _ (mem_append_left _ y)))
     .rcases mem_append.mp y with y |y
      .refine ⟨(nw' b y).1,?_⟩
       rcases (nw' b y).2 with z |z
       .exact .inl (inA b z)
       .exact .inr z
      .exact old (mem_cons_of_mem _ (mem_cons_of_mem _ (mem_append_right _ y)))
 .exact w.elim
end
end L2
namespace PySem
def BehindOf (its:Array Value)(P:Nat->Value->Prop)(acc:Array Value)(i:Nat):Prop:=∃new:Array Value,acc=its++new/\ItemsOf P new i
section
variable {prog:Program}{w:World}{A:Around}{R:Result->Shared->Prop}{I:Addr}{fp wr:List Addr}{δ:Array GenState->Array GenState->Prop}{n:Nat}{P:Nat->Value->Prop}{St:Nat->Shared->Prop}
theorem behind_loop (its:Array Value)(W:WalksS prog w A.in1 I fp wr δ n P St)(hn:its.size+n<=sizeLine)(S:Addr)(hSf:S∉fp)(res:Value):
  ∀(k i:Nat) (s:Shared) (acc:Array Value) (c:Nat),n-i=k->i<=n->St i s->s.heap.get? S=some {cls:=.type "list",dict:=none,data:=.seq acc c,slots:=#[]}->BehindOf its P acc i->
  (∀s' acc' c',Moved (S::wr) δ s s'->s'.heap.get? S=some {cls:=.type "list",dict:=none,data:=.seq acc' c',slots:=#[]}->BehindOf its P acc' n->R (.ok (.ret res)) s')->
  codeAny (model prog w) A (.builtin "list.extend.loop" ⟨[.ref S,.ref I,res],[]⟩) R s:=by
 have nw:S∉wr:=λh=>hSf (W.sub _ h)
 have up:∀b∈wr,b∈S::wr:=λb hb=>mem_cons_of_mem _ hb
 intro k
 induction k with
 |zero=>
  intro i s acc c hk hi hst hS hacc hR
  obtain rfl:i=n:=by omega
  refine codeAny_builtin F.entry_extend_loop ?_
  rw[Around.under_plainId F.plain_extend_loop _]
  show wpAny _ A.in1 (pyNext (.ref I) >>= _) _ _ s
  exact wpAny_bind (W.done s _ _ hst λs' hm=>wpAny_pure (hR s' acc c (hm.mono up) (hm.heap S _ nw hS) hacc))
 |succ k ih=>
  intro i s acc c hk hi hst hS hacc hR
  have hlt:i<n:=by omega
  refine codeAny_builtin F.entry_extend_loop ?_
  rw[Around.under_plainId F.plain_extend_loop _]
  show wpAny _ A.in1 (pyNext (.ref I) >>= _) _ _ s
  refine wpAny_bind (W.item i s _ _ hlt hst λv s' hP hst' hm=>?_)
  have hS':=hm.heap S _ nw hS
  obtain⟨new,rfl,hnew⟩:=hacc
  have hsz:(its++new).size=its.size+i:=by rw[size_append,hnew.1]
  show wpAny _ A.in1 (updateSeq S (·.push v) >>= _) _ _ _
  refine wpAny_bind ?_
  refine wpAny_updateSeq hS' rfl (wpAny_pure ⟨plainId_quiet F.plain_extend_loop _,ih (i+1) _ ((its++new).push v) _ (by omega) hlt (W.frame _ s' _ s'.toks hst' (Nat.le_refl _) λb hb o e=>?_) (get?_update_self _ hS' rfl) ⟨new.push v,by simp,hnew.push hP⟩ λs'' acc' c' hm'' hS'' hacc'=>?_⟩)
   (by rw[hsz];omega) (by show ((its++new).push v).size<=sizeLine+1;rw[Array.size_push,hsz];omega)
  .exact (Heap.get?_update_other _ _ (λh:S=b=>hSf (by rw[h];exact hb))).trans e
  .refine hR s'' acc' c' (Moved.trans W.gtrans ((hm.mono up).then_heap (by first |exact Nat.le_refl _ |exact le_succ _ |omega) λb o hb e=>?_) hm'') hS'' hacc'
   exact (Heap.get?_update_other _ _ (λh:S=b=>hb (by rw[h];exact mem_cons_self))).trans e
end
section
variable {prog:Program}{w:World}{A:Around}{E:Value->Shared->Prop}{s:Shared}
theorem wpAny_extend_text {R:Result->Shared->Prop}(hh:A.handled=none)(x:Str)(t:Tok)(S:Addr)(res:Value)(its:Array Value)(c₀:Nat)(hS:s.heap.get? S=some {cls:=.type "list",data:=.seq its c₀})
  (hR:∀h' tk acc' c',(∀b o,b≠S->s.heap.get? b=some o->h'.get? b=some o)->h'.get? S=some {cls:=.type "list",dict:=none,data:=.seq acc' c',slots:=#[]}->
   BehindOf its (SignAt x) acc' x.cps.size->R (.ok (.ret res)) {s with heap:=h',toks:=tk}) (hn:its.size+x.cps.size<=sizeLine):
  wpAny (model prog w) A.in1 (Builtin.List.listExtendWith (.ref S) (.str x t) res)
   (λfin s'=>match fin with | .done f=>R (.ok f) s' | .again c'=>c'.quiet=true/\codeAny (model prog w) A c' R s') (λe s'=>R (.error e) s') s:=by
 have hSI:S≠s.heap.objs.size:=ne_of_lt (lt_size hS)
 have hSf:S∉[s.heap.objs.size]:=λhm=>hSI (mem_singleton.mp hm)
 unfold Builtin.List.listExtendWith
 refine wpAny_bind (wpAny_typeOf (T := "str") (v:=.str x t) rfl ?_)
 have h1:Builtin.List.listSameRef (.ref S) (.str x t)=false:=rfl
 have h2:(Value.type "str"==Value.type "list")=false:=by decide
 have h3:(Value.type "str"==Value.type "tuple")=false:=by decide
 simp only[h1,h2,h3,Bool.or_false,false_eq_true,if_false]
 refine wpAny_bind (wpAny_pyIter_str λo St W hst=>?_)
 refine wpAny_bind (wpAny_holding ?_)
 unfold Builtin.List.listLengthHint
 refine wpAny_bind (wpAny_specialOf (T := "str") (v:=.str x t) rfl F.str_len ?_)
 wp_delta
 refine wpAny_bind (wpAny_isInstance (T := "str") (v:=.str x t) (b:=true) rfl (by rw[isSubtype_type];kernel_rfl) ?_)
 show wpAny _ _ (typeOf (Value.str x t) >>= _) _ _ _
 refine wpAny_bind (wpAny_typeOf (T := "str") (v:=.str x t) rfl ?_)
 refine wpAny_pure ?_
 rw[if_neg (by decide)]
 refine wpAny_pure ⟨plainId_quiet F.plain_extend_loop _,behind_loop its (W A.in1 hh).toS hn _ hSf _ x.cps.size 0 _ _ _ rfl (zero_le _) hst (get?_push_of_some _ hS) ⟨#[],by simp,ItemsOf.nil _⟩ λs' acc' c' hm hS' hacc=>?_⟩
 rw[Moved.eq_with hm]
 refine hR s'.heap s'.toks acc' c' (λb ob hb e=>hm.heap b ob (λhmem=>?_) (get?_push_of_some _ e)) hS' hacc
 rcases mem_cons.mp hmem with e' |hmem
 .exact hb e'
 .exact absurd (lt_size e) (by rw[mem_singleton.mp hmem];exact lt_irrefl _)
end
end PySem
namespace L2
open PySem PySem.Spec PyProof.Rows
section
variable {X:Cx}
def rExtT:V->List V->Hp->VK->Prop:=λx vs H Q=>∃l t xs,x = .ref l/\vs=[.str t]/\H l=some (.lst xs)/\xs.length+t.cps.size<=sizeLine/\Q .non (upd H l (.lst (xs++(sgns t).map V.str)))
theorem vals_sgns {x:Str}{acc:Array Value}(h:ItemsOf (SignAt x) acc x.cps.size):Vals ((sgns x).map V.str) acc.toList:=by
 have key:∀(cs:List Nat) (us:List Value),us.length=cs.length->(∀(j:Nat) (u:Value),us[j]?=some u->∃c t,cs[j]?=some c/\u=Value.str ⟨#[c]⟩ t)->Vals ((cs.map λc=>(⟨#[c]⟩:Str)).map V.str) us:=by
  intro cs
  induction cs with
  |nil=>
   intro us hl _
   rw[List.length_eq_zero_iff.mp hl]
   exact .nil
  |cons c cs ih=>
   intro us hl hu
   match us,hl with
   |u::us,hl=>
    obtain⟨c',t,e1,e2⟩:=hu 0 u rfl
    cases e1
    exact .cons ⟨t,e2⟩ (ih us (by simpa using hl) λj w hj=>hu (j+1) w hj)
 refine key x.cps.toList acc.toList (by simpa using h.1) λj u hj=>?_
 obtain⟨c,t,e1,e2⟩:=h.2 j u (by simpa using hj)
 exact⟨c,t,by simpa using e1,e2⟩
theorem mt_extT (hc:X.calm=true):MtM X "list.extend" rExtT:=by
 intro pins s Y H x vs v us Q I rx rv h
 obtain⟨l,t,xs,rfl,rfl,hH,hz,q⟩:=h
 cases rx
 obtain⟨u,rfl,ru⟩:=rv.one
 obtain⟨tk,rfl⟩:=ru
 obtain⟨z,its,n,r,hl,e⟩:=I.lstM hH
 refine wpAny_call (codeAny_call_builtin F.slot_list_extend.plain F.entry_list_extend (F.slot_list_extend.check _ _ _ _ _ _ _ _ ⟨_,e,rfl⟩ (F.args_list_extend_2 _ _) ?_))
 show wpAny (model X.prog X.w) X.A.in1 (Builtin.List.listExtendWith (.ref l) (.str t tk) .none) _ _ s
 refine wpAny_extend_text (A:=X.A) (R:=wants (EP X pins Y Q) X.xe) (I.ok.hd hc) t tk l .none its.toArray n e (λh' tk' acc' c' hk hS' hacc=>?_) (by rw[size_toArray];omega)
 obtain⟨new,rfl,hnew⟩:=hacc
 have hv:=r.append (vals_sgns hnew)
 have eS:its.toArray++new=(its++new.toList).toArray:=by simp
 rw[eS]at hS'
 have hln:=hv.length
 have hz':(xs++(sgns t).map V.str).length<=sizeLine:=by
  rw[length_append,length_map,sgns,length_map,length_toList]
  exact hz
 exact⟨.non,_,I.write (x:=l) (e:=l) (o:=.lst (xs++(sgns t).map V.str)) (by rw[hH];exact trivial) (.inl rfl) (λb u hb hu=>hk b u hb hu) ⟨_,hS'⟩ ⟨hz',its++new.toList,c',hv,hS'⟩,rfl,q⟩
def rStrip:V->List V->Hp->VK->Prop:=λx vs H Q=>∃a b,x = .str a/\vs=[.str b]/\a.length<=sizeLine/\Q (.str (Txt.stripChars a b)) H
theorem mt_strip:MtR X "str.strip" rStrip:=by
 intro pins s Y H x xs v us Q I rx r h
 obtain⟨a,b,rfl,rfl,hz,q⟩:=h
 obtain⟨t,rfl⟩:=rx
 obtain⟨u,rfl,ru⟩:=vals1 r
 obtain⟨t',rfl⟩:=ru
 exact PySem.W.KXw.stripChars rfl hz λt'' k=>⟨.str _,H,I.tok k,⟨_,rfl⟩,q⟩
end
def dStrip (E Ec:DE):DE:=λG P=>E G λd=>match d with
 | .str x=>Ec G λl=>match l with
  | .str y=>x.length<=1000000/\P (.str (Txt.stripChars x y))
  |_=>False
 |_=>False
def sFExtT (c:Str)(ns:List Str)(i j:Nat)(E:DE):DS:=λDe G=>match G[i]? with
 |some (some (.own (.ob o c' ns' ts)))=>c'=c/\ns'=ns/\∃us,ts[j]?=some (.nl us)/\E G λd=>match d with
  | .str x=>us.length+x.cps.size<=1000000/\De.nx (G.set i (some (.own (.ob o c ns (ts.set j (.nl (us++(sgns x).map λs=>.fz (.str s))))))))
  |_=>False
 |_=>False
section
variable {K:Frag}{c f:Str}{ns:List Str}{i j:Nat}
theorem sF_strip {te ta:TE}{E El:DE}(h:SimB K te E)(ha:SimB K ta El):SimF K (tBM K "str" rStrip te (tCons ta tNil)) (dStrip E El):=λF0 H0 F H Y G P Q e w q=>h F0 H0 F H Y G _ _ e w λd v F1 H1 w1 x1 r1=>by
 try dsimp only at w1
 split at w1
 .rename_i x
  cases (show v=V.str x from r1)
  refine⟨rfl,ha F0 H0 F1 H1 Y G _ _ (e.on x1) w1 λl u F2 H2 w2 x2 r2=>?_⟩
  try dsimp only at w2
  split at w2
  .rename_i y
   cases (show u=V.str y from r2)
   exact⟨x,y,rfl,rfl,sz_le w2.1,q _ _ F2 H2 w2.2 (x1.trans x2) rfl⟩
  .exact w2.elim
 .exact w1.elim
theorem reps_sgns {F:Hp}:∀(ss:List Str),Reps K F (ss.map D.str) (ss.map V.str)
 | []=>rfl
 |s::ss=>⟨_,_,rfl,rfl,reps_sgns ss⟩
theorem sS_fextT {te:TE}{E:DE}(CV:ClsV K c ns)(hf:ns[j]?=some f)(h:SimF K te E):SimS K (tDrop (tBM K "list" rExtT (tFld K (tVar i) f) (tCons te tNil))) (sFExtT c ns i j E):=λF0 H0 F H Y G De En e l w=>by
 obtain⟨A,e⟩:=e
 unfold sFExtT at w
 split at w
 .rename_i o c' ns' ts hs
  obtain⟨rfl,rfl,us,hx,w⟩:=w
  obtain⟨v,hv,a,C,dx,vs,B,rfl,eA,h0,ho,h1,h2,hl,h3⟩:=e.own i _ hs
  obtain⟨C',hC',cl,na⟩:=CV.ex
  rw[h0]at hC'
  cases hC'
  obtain⟨v0,A1,B0,A2,f1,rfl,f3,f4⟩:=h3.focus hx
  obtain⟨b0,ws,B1,rfl,rfl,hc,hws⟩:=f3
  refine⟨_,hv,a,C,dx,_,.ref b0,rfl,h1,cl,na f (mem_of_getElem? hf),(by rw[lk_zip CV.nd hf];exact f1),.inl ⟨rfl,_,SqL.of hc⟩,?_⟩
  refine h F0 H0 F H Y G _ _ ⟨A,e⟩ w λd u F1 H1 p x1 ru=>?_
  try dsimp only at p
  split at p
  .rename_i x
   cases (show u=V.str x from ru)
   have e1:=e.on x1
   have hwl:=hws.length
   refine⟨b0,x,ws,rfl,rfl,x1.hh _ _ hc,sz_le (by omega),?_⟩
   have hnd:=e.nod i
   rw[eA]at hnd
   obtain⟨n1,n2⟩:=nodup_cons.mp hnd
   obtain⟨n3,n4⟩:=nodup_cons.mp n2
   have hbA:b0∈A i:=by rw[eA];simp
   obtain⟨m1,m2,m3⟩:=nodup_append.mp n4
   obtain⟨q1,q2,q3⟩:=nodup_append.mp m2
   obtain⟨s1,s2⟩:=nodup_cons.mp q1
   have off:∀b∈A1++A2,b≠b0:=λb hb z=>by
    subst z
    rcases mem_append.mp hb with y |y
    .exact m3 b y b (by simp) rfl
    .exact q3 b (by simp) b y rfl
   have hab:a≠b0:=λz=>n1 (by rw[z];simp)
   have hdb:dx≠b0:=λz=>n3 (by rw[z];simp)
   have em:(sgns x).map (λs=>OV.fz (.str s))=((sgns x).map D.str).map OV.fz:=by rw[map_map];rfl
   have f4':=f4 F1 (upd H1 b0 (.lst (ws++(sgns x).map V.str))) (.nl (us++(sgns x).map λs=>.fz (.str s))) (.ref b0) (b0::(B1++[])) x1.ff (λb hb xs z=>upd_off (off b hb) (x1.hh _ _ z))
    ⟨b0,ws++(sgns x).map V.str,B1++[],rfl,rfl,upd_same,by
     rw[em]
     exact RepOs.append (hws.frame x1.ff λb hb xs z=>upd_off (λy=>s1 (by rw[<- y];exact hb)) (x1.hh _ _ z)) (RepOs.fzs (reps_sgns _))⟩
   rw[set_self_of f1,append_nil]at f4'
   exact l.nx F1 _ Y _ (e1.obj hv eA h0 ho (upd_off hab (x1.hh _ _ h1)) (upd_off hdb (x1.hh _ _ h2)) (by rw[length_set];exact hl) f4' n4 (λb hb=>.inl hb) λb o' hb z=>upd_off (λy=>hb (by rw[y];exact hbA)) z) p.2
  .exact p.elim
 .exact w.elim
end
end L2
namespace PySem.W
open PySem PySem.Spec PySem.Calls PyProof.Rows Builtin Builtin.ObjectAttr Builtin.Getset_descriptor
section
variable {prog:Program}{w:World}{A:Around}{E:Value->Shared->Prop}{s:Shared}{K:Frag}{x D:Addr}{ox:Obj}
theorem find_data {M:Model}{h:Heap}{a g:Value}{name:Str}(X:K.In h)(ha:findIn K (.ref D) name=some (some a))(hn:specialIn K a "__get__"=some (some g))(htk:takesIn K a=some true):Looks M h (Builtin.ObjectAttr.find (.ref x) (.ref D) name) (.bind g a):=
 (looks_findIn (M:=M) X ha).andThen ((looks_specialIn (M:=M) X hn).andThen ((show Looks M h (Builtin.ObjectAttr.dataDescriptor? (some a) (some g)) (some (g,a)) from (looks_takesIn (M:=M) X htk).andThen .now).andThen (Looks.tag .now)))
theorem class_got {R:Result->Shared->Prop}{tp:Value}(X:K.In s.heap)(L0:Looks (model prog w) s.heap (typeOf (.ref x)) (.ref D))(hm:mroIn K D (.type "object")=some true)
  (h:R (.ok (.ret (.ref D))) s):codeAny (model prog w) A (.call (.builtin "getset_descriptor.__get__") ⟨[.builtin "object.__class__",.ref x,tp],[]⟩) R s:=by
 obtain⟨hh,g,dr,t,os⟩:=s
 have L1:=looks_mroIn (M:=model prog w) X hm
 refine codeAny_call_builtin KF.slot_gs.plain KF.entry_gs (KF.slot_gs.check _ _ _ _ _ _ _ _ KF.type_class (KF.args_gs _ _ _) ?_)
 unfold Builtin.«getset_descriptor.__get__» descrGet
 rw[dga_obj]
 refine wpAny_bind (wpAny_pure ?_)
 unfold descrGetter descrCheckInstance descrNameAndClass isInstance
 simp only[KF.owner_class]
 repeat lk
 refine⟨Code.quiet_builtin _ (by decide +kernel),codeAny_builtin KF.entry_class ?_⟩
 unfold Builtin.«object.__class__» shownTypeOf
 repeat lk
 exact h
theorem exc_class {Q:Option Value->Shared->Prop}(hga:findIn K (.ref D) "__getattribute__"=some (some (.builtin "BaseException.__getattribute__")))(hgg:findIn K (.ref D) "__getattr__"=some none)
  (hb:subIn K (.ref D) (.type "BaseException")=some true) (ha:findIn K (.ref D) "__class__"=some (some (.builtin "object.__class__")))
  (hn:specialIn K (.builtin "object.__class__") "__get__"=some (some (.builtin "getset_descriptor.__get__"))) (htk:takesIn K (.builtin "object.__class__")=some true) (hm:mroIn K D (.type "object")=some true)
  (X:K.In s.heap) (L0:Looks (model prog w) s.heap (typeOf (.ref x)) (.ref D)) (h:Q (some (.ref D)) {s with toks:=s.toks+1}):wpAny (model prog w) A (getAttr? (.ref x) "__class__") Q E s:=by
 obtain⟨hh,g,d,t,os⟩:=s
 have L1:=looks_findIn (M:=model prog w) X hga
 have L2:=looks_findIn (M:=model prog w) X hgg
 have L3:=find_data (M:=model prog w) (x:=x) X ha hn htk
 have L4:=looks_subIn (M:=model prog w) X hb
 unfold getAttr? getAttrBy? getAttrBy
 refine wpAny_bind (wpAny_mkText (wpAny_bind (wpAny_attempt (wpAny_holding (wpAny_bind (L0.at (wpAny_bind (L1.at ?_))))))))
 show wpAny _ _ (getAttrByItsOwn _ _ _ _ _ _) _ _ _
 unfold getAttrByItsOwn
 show wpAny _ _ (typeLookup (.ref D) "__getattr__" >>= _) _ _ _
 refine wpAny_bind (L2.at ?_)
 have key:wpAny (model prog w) A (callGetattribute (Value.ref x) (Value.str (Str.ofString "__class__") t) (Value.builtin "BaseException.__getattribute__") false) (λv s'=>v = .ref D/\s'=⟨hh,g,d,t+1,os⟩) (λ_ _=>False) ⟨hh,g,d,t+1,os⟩:=by
  show wpAny _ _ (bindSpecial (Value.builtin "BaseException.__getattribute__") (.ref x) >>= _) _ _ _
  rw[PySem.F.excAttr_ValueError.ga.bind (.ref x)]
  refine wpAny_bind (wpAny_pure ?_)
  show wpAny _ _ (call (Value.builtin "BaseException.__getattribute__") [.ref x,.str (Str.ofString "__class__") t]) _ _ _
  refine wpAny_call (codeAny_call_builtin PySem.F.excAttr_ValueError.ga.plain PySem.F.entry_bexc_ga ?_)
  have hk:builtinKind "BaseException.__getattribute__"=some .slot:=by decide +kernel
  have hsplit:splitId "BaseException.__getattribute__"=some ("BaseException","__getattribute__"):=by decide +kernel
  have har:=PySem.F.args_bexc_ga (.ref x) (.str (Str.ofString "__class__") t)
  simp only[checkBuiltinCall,hk,hsplit]
  have LI:Looks (model prog w) hh (isInstance (.ref x) (.type "BaseException")) true:=L0.andThen L4
  refine wpAny_bind (LI.at ?_)
  simp only[Bool.not_true,false_eq_true,if_false]
  have hsg:wpAny (model prog w) A.in1 (match Manifest.signature? "BaseException.__getattribute__" with
     |some sig=>Bind.checkArgs "BaseException.__getattribute__" sig {pos:=[Value.ref x,Value.str (Str.ofString "__class__") t]}
     |x=>pure ()) (λ_ s'=>s'=⟨hh,g,d,t+1,os⟩) (λ_ _=>False) ⟨hh,g,d,t+1,os⟩:=by
   cases hsig:Manifest.signature? "BaseException.__getattribute__" with
   |none=>exact wpAny_pure rfl
   |some sig=>
    simp only[argsOk,hsig]at har
    show wpAny _ _ (Bind.checkArgs "BaseException.__getattribute__" sig _) _ _ _
    rw[har]
    exact wpAny_pure rfl
  refine wpAny_mono hsg (λ_ s' e=>?_) (λ_ _ z=>z)
  subst e
  unfold Builtin.«object.__getattribute__»
  repeat (any_goals (first |assumption | (refine wpAny_bind (L0.at ?_)) | (refine wpAny_bind (L3.at ?_)) |wp_step))
  exact class_got (s:=⟨hh,g,d,t+1,os⟩) X L0 hm (wpAny_pure ⟨rfl,rfl⟩)
 refine wpAny_bind (wpAny_attempt (wpAny_holding (wpAny_mono key (λv s' z=>?_) λ_ _ z=>z.elim)))
 obtain⟨rfl,rfl⟩:=z
 exact handed_on rfl (wpAny_pure h)
structure ExcK (K:Frag) (D:Addr):Prop where
 ga:findIn K (.ref D) "__getattribute__"=some (some (.builtin "BaseException.__getattribute__"))
 gg:findIn K (.ref D) "__getattr__"=some none
 cls:hasDictIn K D=true
 sub:subIn K (.ref D) (.type "BaseException")=some true
 attr:findIn K (.ref D) "__class__"=some (some (.builtin "object.__class__"))
 get:specialIn K (.builtin "object.__class__") "__get__"=some (some (.builtin "getset_descriptor.__get__"))
 takes:takesIn K (.builtin "object.__class__")=some true
 mro:mroIn K D (.type "object")=some true
theorem kitx_exc (Z:ExcK K D):KitX K (.ref x) (.ref D) (λh=>∃o,h.get? x=some o/\o.cls = .ref D) where
 ty:=λ_ _ _ ⟨o,h1,h2⟩=>h2▸(Looks.ld h1).andThen .now
 it:=λ_ _ X _=>by
  obtain⟨cdD,hcD,_⟩:=any_some Z.cls
  unfold clsIn at hcD
  split at hcD
  .rename_i c' d' cd' sl' ho
   intro A' Q' E' s' k q
   unfold isType loadHead
   exact wpAny_bind (wpAny_loadPart (k _ _ (X _ _ ho)) (wpAny_pure q))
  .cases hcD
 ne:=λh tp dd its n sl X htp=>by
  obtain⟨cdD,hcD,_⟩:=any_some Z.cls
  refine Bool.eq_false_iff.mpr λq=>?_
  have e:D=tp:=Value.ref.inj (beq_iff_eq.mp q)
  subst e
  unfold clsIn at hcD
  split at hcD
  .rename_i c' d' cd' sl' ho
   have z:=(X _ _ ho).symm.trans htp
   cases z
  .cases hcD
 ca:=λX ⟨o,h1,h2⟩ k=>exc_class Z.ga Z.gg Z.sub Z.attr Z.get Z.takes Z.mro X (h2▸(Looks.ld h1).andThen .now) k
end
end PySem.W
namespace L2
open PySem PySem.Spec PyProof.Rows PyProof.V PySem.W
section
variable {X:Cx}
end
section
variable {K:Frag}{F0 H0:Hp}{t u:TS}{T U:DS}
end
theorem own_of {K:Frag}{mg:Str->Option Value}{base:Heap}{c:Str}{C:Addr}(X:K.In base)(δ:base.Ns mainGlobals mg)(e:nsIn K mainGlobals c=some (some (.ref C)))
  (q:excIn K C [.type "ValueError",.type "Exception",.type "BaseException",.type "object"] "ValueError.__new__"=true):OwnCls c C [.type "ValueError",.type "Exception",.type "BaseException",.type "object"] "ValueError.__new__" mg base:=by
 refine⟨mg_of X δ e,?_⟩
 unfold excIn at q
 split at q
 .rename_i dd cd sl ho
  split at q
  .rename_i C' bm k0 k1 k2 k3 n k5 hm hs
   simp only[and_eq_true,beq_iff_eq,Bool.not_eq_true']at q
   obtain⟨⟨⟨⟨⟨rfl,rfl⟩,hdel⟩,ht⟩,hok⟩,hni⟩:=q
   obtain⟨nm,bs,mro,ns,qn,hd,sn,sub,ab,col,del⟩:=cd
   dsimp only at hm hdel hok hni
   subst hm hdel
   have hsl:sl=#[k0,k1,k2,k3,some (.builtin "ValueError.__new__"),k5]:=by
    obtain⟨l⟩:=sl
    simp only at hs
    rw[hs]
   subst hsl
   exact⟨bm,ns,nm,qn,bs,hd,sn,sub,ab,col,dd,k0,k1,k2,k3,k5,_,X _ _ ho,.of_isNs (PySem.W.isNs_of_in X hok),PySem.W.nsMap_none_of_in X hok hni,PySem.W.tail_of_in X ht⟩
  .cases q
 .cases q
section
variable {P:Program}{w:World}{K:Frag}{mg:Str->Option Value}{base:Heap}{N:List Str}{qual:Str}{scope:Scope}{f:Addr}{cd:Value}{A:Around}{outer:List Env}{s:Shared}{H:Hp}{E:XK}
end
section
variable {K:Frag}{F0 H0 F H:Hp}{Y:St}{G:Dst}{A:Nat->List Addr}
theorem ER.clr (e:ER K F0 H0 F H Y G A)(i:Nat):ER K F0 H0 F H (Y.set i none) (G.set i none) (λj=>if j=i then [] else A j) where
 len:=by simp[e.len]
 ext:=e.ext
 own := λj t hj=>by
  by_cases z:j=i
  .subst z
   rw[List.getElem?_set]at hj
   split at hj
   .split at hj<;>cases hj
   .cases (by assumption:¬ j=j) rfl
  .rw [getElem?_set_ne (Ne.symm z)]at hj
   obtain⟨v,h1,h2⟩:=e.own j t hj
   exact⟨v,by rw[getElem?_set_ne (Ne.symm z)];exact h1,by rw[if_neg z];exact h2⟩
 bw:=λj d hj=>by
  by_cases z:j=i
  .subst z
   rw[List.getElem?_set]at hj
   split at hj
   .split at hj<;>cases hj
   .cases (by assumption:¬ j=j) rfl
  .rw [getElem?_set_ne (Ne.symm z)]at hj
   obtain⟨v,h1,h2⟩:=e.bw j d hj
   exact⟨v,by rw[getElem?_set_ne (Ne.symm z)];exact h1,h2⟩
 nod:=λj=>by
  try dsimp only
  split
  .exact nodup_nil
  .exact e.nod j
 dis := λj k a hjk h1 h2=>by
  try dsimp only at h1 h2
  split at h1
  .cases h1
  .split at h2
   .cases h2
   .exact e.dis j k a hjk h1 h2
 new:=λj a ha=>by
  try dsimp only at ha
  split at ha
  .cases ha
  .exact e.new j a ha
end
structure ExcV (K:Frag) (c:Str) (xs:List (Str×Bool)) (ts:List (String×Bool)):Prop where
 ex:∃C,nsIn K mainGlobals c=some (some (.ref C))/\PySem.W.ExcK K C/\(∀y∈xs,∃D,nsIn K mainGlobals y.1=some (some (.ref D))/\kitOne K (.ref C) (.ref D)=some y.2)/\∀y∈ts,kitOne K (.ref C) (.type y.1)=some y.2
def rIsX (K:Frag):List V->Hp->VK->Prop:=λvs H Q=>∃a C v b,vs=[.ref a,v]/\H a=some (.ext (clsφ a (.ref C)))/\PySem.W.ExcK K C/\((∃D,v = .ref D/\kitOne K (.ref C) (.ref D)=some b)∨∃t,v = .ty t/\kitOne K (.ref C) (.type t)=some b)/\Q (.bl b) H
theorem call_isX {X:Cx}:CallR X (.builtin "isinstance") (rIsX X.K):=by
 intro pins s Y H vs us Q I r h
 obtain⟨a,C,v,b,rfl,ha,Z,hv,q⟩:=h
 obtain⟨u,u',rfl,r1,r2⟩:=vals2 r
 cases r1
 have fin:∀tk,EP X pins Y Q (.bool b) {s with toks:=tk}:=λtk=>⟨.bl b,H,I.tok tk,rfl,q⟩
 have hφ:=(I.hok a _ ha).1
 rcases hv with⟨D,rfl,e⟩ | ⟨t,rfl,e⟩
 .cases r2
  exact kia_one (PySem.W.kitx_exc Z) I.kIn hφ e (λz=>nomatch z) fin
 .cases r2
  exact kia_one (PySem.W.kitx_exc Z) I.kIn hφ e (λz=>nomatch z) fin
def isxD (c:Str)(xs:List (Str×Bool))(ts:List (String×Bool)):List D->(D->Prop)->Prop:=λds P=>match ds with
 | [.exc c',.fn x]=>c'=c/\∃b,(x,b)∈xs/\P (.bl b)
 | [.exc c',.ty t]=>c'=c/\∃b,(t,b)∈ts/\P (.bl b)
 |_=>False
theorem cS_isX {K:Frag}{c:Str}{xs:List (Str×Bool)}{ts:List (String×Bool)}(EV:ExcV K c xs ts):CbS K (rIsX K) (isxD c xs ts):=λF H ds vs P Q s rs w q=>by
 obtain⟨C,hC,Z,h1,h2⟩:=EV.ex
 unfold isxD at w
 split at w
 .obtain ⟨rfl,b,hb,w⟩:=w
  obtain⟨v,u,rfl,r1,r2⟩:=reps2 rs
  obtain⟨a,C',rfl,hC',ha⟩:=r1
  rw[hC]at hC'
  cases hC'
  obtain⟨f,rfl,hf⟩:=r2
  obtain⟨D,hD,hk⟩:=h1 _ hb
  rw[hf]at hD
  cases hD
  exact⟨a,C,_,b,rfl,ha,Z,.inl ⟨_,rfl,hk⟩,q _ _ F H w (Ext.refl s) rfl⟩
 .obtain ⟨rfl,b,hb,w⟩:=w
  obtain⟨v,u,rfl,r1,r2⟩:=reps2 rs
  obtain⟨a,C',rfl,hC',ha⟩:=r1
  rw[hC]at hC'
  cases hC'
  cases r2
  exact⟨a,C,_,b,rfl,ha,Z,.inr ⟨_,rfl,h2 _ hb⟩,q _ _ F H w (Ext.refl s) rfl⟩
 .exact w.elim
open PySem PySem.Spec PyProof.Rows
theorem boot_ValueError:bootBuiltins "ValueError"=some (.type "ValueError"):=by decide +kernel
section
variable {X:Cx}{K:Frag}
end
open PySem PySem.Spec PyProof.Rows PyProof.V PySem.W
section
variable {X:Cx}
end
section
variable {K:Frag}{X:Cx}
end
section
variable {M:Model}{A:Around}{E:Value->Shared->Prop}{s:Shared}
end
section
variable {P:Program}{w:World}{K:Frag}{mg:Str->Option Value}{base:Heap}{N:List Str}{qual:Str}{scope:Scope}{f:Addr}{cd:Value}{A:Around}{outer:List Env}{s:Shared}{H:Hp}{E:XK}
end
section
variable {P:Program}{w:World}{K:Frag}{mg:Str->Option Value}{base:Heap}{N0:List Str}{qual:Str}{scope0:Scope}{f:Addr}{cd:Value}{A:Around}{outer:List Env}{s0:Shared}{H0:Hp}{E:XK}
variable {X:Cx}{tg iter e:Expr}{es:List Expr}{scope:Scope}{N:List Str}{ix:List (Option Nat)}{wi:TI}{g:TG}{ta:TA}{pos p cpos:Pos}{x:Str}{k:Nat}{ps:List Str}{sp:Sp}
end
section
variable {K:Frag}{F0 H0:Hp}
end
open PySem PySem.Spec PyProof.Rows
section
variable {X:Cx}{K:Frag}
end
open PySem PySem.Spec PyProof.Rows PyProof.V PySem.W
section
variable {K:Frag}{h:Heap}{mg:Str->Option Value}{x m q c:Str}{st:Stmt}{f T C:Addr}{od an odT:Option Addr}{sl slT:Array (Option Value)}{oc kV dc pm cd ct ocT:Value}{nT:Nat}{ds:Array Value}
end
section
variable {K:Frag}
end
def eqAD:DR2:=λx y P=>rEqD x y P∨eqND x y P
def rOr (r s:R2):R2:=λv u H Q=>r v u H Q∨s v u H Q
section
variable {X:Cx}
theorem op_eqA (hu:X.A.units+64<cLine):OpR X (compareOp .Eq) (rOr rEq (rEqN X.K)):=by
 intro pins s Y H v u a b Q I ra rb h
 rcases h with h |h
 .exact op_eq pins s Y H v u a b Q I ra rb h
 .exact op_eqN hu pins s Y H v u a b Q I ra rb h
end
section
variable {K:Frag}
theorem oS_eqA:OpS K (rOr rEq (rEqN K)) eqAD:=λF H x y v u P Q s rx ry w q=>by
 rcases w with w |w
 .exact .inl (oS_eq F H x y v u P Q s rx ry w q)
 .exact .inr (oS_eqN F H x y v u P Q s rx ry w q)
end
section
variable {K:Frag}
end
section
variable {X:Cx}
end
section
variable {P:Program}{w:World}{K:Frag}{mg:Str->Option Value}{base:Heap}{c m q:Str}{ns:List Str}{st:Stmt}{f:Addr}{fd:FuncData}{N ps:List Str}{k n:Nat}
end
section
variable {K:Frag}
end
end L2
namespace PySem
open Builtin
end PySem
namespace L2
open PySem PySem.Spec PyProof.Rows PyProof.V PySem.W
section
variable {X:Cx}
end
section
variable {K:Frag}
end
section
variable {P:Program}{w:World}{K:Frag}{mg:Str->Option Value}{base:Heap}{N:List Str}
end
def isxM (t:List (Str×List (Str×Bool)×List (String×Bool))):List D->(D->Prop)->Prop:=λds P=>match ds with
 | [.exc c,.fn x]=>∃y∈t,c=y.1/\∃b,(x,b)∈y.2.1/\P (.bl b)
 | [.exc c,.ty s]=>∃y∈t,c=y.1/\∃b,(s,b)∈y.2.2/\P (.bl b)
 |_=>False
theorem cS_isM {K:Frag}{t:List (Str×List (Str×Bool)×List (String×Bool))}(EV:∀y∈t,ExcV K y.1 y.2.1 y.2.2):CbS K (rIsX K) (isxM t):=λF H ds vs P Q s rs w q=>by
 unfold isxM at w
 split at w
 .obtain ⟨y,hy,hc,b,hb,w⟩:=w
  exact cS_isX (EV y hy) F H _ vs P Q s rs ⟨hc,b,hb,w⟩ q
 .obtain ⟨y,hy,hc,b,hb,w⟩:=w
  exact cS_isX (EV y hy) F H _ vs P Q s rs ⟨hc,b,hb,w⟩ q
 .exact w.elim
section
variable {X:Cx}
end
section
variable {K:Frag}{te ti:TE}{Eo:DO}{Ei:DE}
end
section
variable {X:Cx}
end
section
variable {K:Frag}
end
section
variable {P:Program}{w:World}{K:Frag}{mg:Str->Option Value}{base:Heap}{N:List Str}{qual:Str}{scope:Scope}{f:Addr}{cd:Value}{A:Around}{outer:List Env}{s:Shared}{H:Hp}{E:XK}
end
section
variable {K:Frag}{F0 H0:Hp}{t ta tc:TE}{Ec:DO}{Ea:DE}
end
section
variable {P:Program}{w:World}{K:Frag}{mg:Str->Option Value}{base:Heap}{N0:List Str}{qual:Str}{scope0:Scope}{f:Addr}{cd:Value}{A:Around}{outer:List Env}{s0:Shared}{H0:Hp}{E:XK}
variable {X:Cx}{tg iter e:Expr}{es:List Expr}{scope:Scope}{N:List Str}{ix:List (Option Nat)}{wi:TI}{g:TG}{ta:TA}{pos p cpos:Pos}{x:Str}{k:Nat}{ps:List Str}{sp:Sp}
end
section
variable {K:Frag}{ti:TE}{Ei:DE}
end
abbrev DMR:=List OV->List D->(D->List OV->Prop)->(Str->List OV->Prop)->Prop
def ObS (K:Frag)(ns:List Str)(C a dx:Addr)(B:List Addr)(F H F' H':Hp)(ts':List OV):Prop:=∃dx' vs' B',Same F F'/\Same F' H'/\(∀b o,b∉a::dx::B->H b=some o->H' b=some o)/\(∀b o,F b=none->H b=some o->imm o=false->b∉a::dx::B->F' b=none)/\H' a=some (.ins C dx' (ns.zip vs'))/\H' dx'=some (.own a)/\ts'.length<=ns.length/\RepOs K F' H' ts' vs' B'/\
 (a::dx'::B').Nodup/\∀b∈a::dx'::B',F' b=none/\(b∈a::dx::B∨H b=none)
def spR (K:Frag)(n:Nat)(c:Str)(ns:List Str)(sp:DMR):Sp:=λvs H Q E=>vs.length=n/\∃F a C dx ts vs0 B rest ds P X,vs=V.ref a::rest/\nsIn K mainGlobals c=some (some (.ref C))/\Same F H/\H a=some (.ins C dx (ns.zip vs0))/\H dx=some (.own a)/\ts.length<=ns.length/\RepOs K F H ts vs0 B/\
 (a::dx::B).Nodup/\(∀b∈a::dx::B,F b=none)/\Reps K F ds rest/\sp ts ds P X/\
 (∀d v ts' F' H',P d ts'->ObS K ns C a dx B F H F' H' ts'->Rep K F' d v->Q v H')/\
 ∀e C1 ts' F' H',X e ts'->nsIn K mainGlobals e=some (some (.ref C1))->ObS K ns C a dx B F H F' H' ts'->E (.ref C1) none H'
section
variable {K:Frag}{c:Str}{ns:List Str}{i:Nat}
theorem spR_of {F0 H0 F H:Hp}{Y:St}{G:Dst}{n:Nat}{sp:DMR}{o:Option Addr}{ts:List OV}{ds:List D}{us:List V}{p:Addr}{P:D->Dst->Prop}{X:Str->Dst->Prop}{Q:VK}{E:XK}(e:EnvR K F0 H0 F H Y G)(hs:G[i]?=some (some (.own (.ob o c ns ts))))(hσ:Y[i]?=some (some (.ref p)))(hn:ds.length+1=n)
  (r:Reps K F ds us) (hsp:sp ts ds (λd ts'=>P d (G.set i (some (.own (.ob o c ns ts'))))) (λx ts'=>X x (G.set i (some (.own (.ob o c ns ts'))))))
  (q:∀d v F' H' G',P d G'->EnvR K F0 H0 F' H' Y G'->Rep K F' d v->Q v H') (qx:∀x C1 F' H' G',X x G'->nsIn K mainGlobals x=some (some (.ref C1))->EnvR K F0 H0 F' H' Y G'->E (.ref C1) none H'):spR K n c ns sp (.ref p::us) H Q E:=by
 obtain⟨A,e⟩:=e
 obtain⟨v,hv,a,C,dx,vs,B,rfl,eA,h0,ho,h1,h2,hl,h3⟩:=e.own i _ hs
 rw[hσ]at hv
 cases hv
 have hnd:=e.nod i
 rw[eA]at hnd
 have hlt:i<G.length:=(List.getElem?_eq_some_iff.mp hs).1
 have key:∀ts' F' H',ObS K ns C p dx B F H F' H' ts'->EnvR K F0 H0 F' H' Y (G.set i (some (.own (.ob o c ns ts')))):=by
  rintro ts' F' H' ⟨dx',vs',B',sF,sH,keep,nofz,hp',hd',hl',hB',nd',nw'⟩
  refine⟨λj=>if j=i then p::dx'::B' else A j,?_⟩
  refine⟨by simp[e.len],⟨e.ext.ff.trans sF,λb o h=>?_,sH,λb o h1 h2 h3=>?_⟩,λj t hj=>?_,λj d hj=>?_,λj=>?_,λj k b hjk h1 h2=>?_,λj b hb=>?_⟩
  .exact keep b o (λz=>by rw[(e.new i b (by rw[eA];exact z)).2.1]at h;cases h) (e.ext.hh _ _ h)
  .exact nofz b o (e.ext.no b o h1 h2 h3) (e.ext.hh _ _ h2) h3 (λz=>by rw[(e.new i b (by rw[eA];exact z)).2.1]at h2;cases h2)
  .try dsimp only
   by_cases z:j=i
   .subst z
    rw[if_pos rfl]
    rw[getElem?_set_self hlt]at hj
    cases hj
    exact⟨_,hσ,p,C,dx',vs',B',rfl,rfl,h0,ho,hp',hd',hl',hB'⟩
   .rw [if_neg z]
    rw[getElem?_set_ne (Ne.symm z)]at hj
    obtain⟨u,h1,h2⟩:=e.own j t hj
    exact⟨u,h1,h2.frame sF λb hb xs q=>keep b _ (λy=>e.dis j i b z hb (by rw[eA];exact y)) q⟩
  .by_cases z:j=i
   .subst z
    rw[getElem?_set_self hlt]at hj
    cases hj
   .rw [getElem?_set_ne (Ne.symm z)]at hj
    exact e.bw j d hj
  .try dsimp only
   split
   .exact nd'
   .exact e.nod j
  .try dsimp only at h1 h2
   have key:∀k,k≠i->b∈p::dx'::B'->b∈A k->False:=λk hk z1 z2=>by
    rcases (nw' b z1).2 with y |y
    .exact e.dis k i b hk z2 (by rw[eA];exact y)
    .obtain ⟨_,_,xs,q,_⟩:=e.new k b z2
     rw[y]at q;cases q
   split at h1
   .split at h2
    .omega
    .rename_i z1 z2
     exact key k z2 h1 h2
   .split at h2
    .rename_i z1 z2
     exact key j z1 h2 h1
    .exact e.dis j k b hjk h1 h2
  .try dsimp only at hb
   split at hb
   .have hh:H0 b=none:=by
     rcases (nw' b hb).2 with y |y
     .exact (e.new i b (by rw[eA];exact y)).2.1
     .exact e.ext.hh.free y
    refine⟨(nw' b hb).1,hh,?_⟩
    rcases mem_cons.mp hb with y |y
    .rw [y];exact⟨_,hp',rfl⟩
    .rcases mem_cons.mp y with y |y
     .rw [y];exact⟨_,hd',rfl⟩
     .exact hB'.isl b y
   .rename_i z
    obtain⟨h1,h2,xs,h3,himm⟩:=e.new j b hb
    have hni:b∉p::dx::B:=λy=>e.dis j i b z hb (by rw[eA];exact y)
    exact⟨nofz b _ h1 h3 himm hni,h2,xs,keep b _ hni h3,himm⟩
 exact⟨by rw[length_cons,<- r.length];exact hn,F,p,C,dx,ts,vs,B,us,ds,_,_,rfl,h0,e.ext.fh,h1,h2,hl,h3,hnd,λb hb=>(e.new i b (by rw[eA];exact hb)).1,r,hsp,
  λd v ts' F' H' pd hS hr=>q d v F' H' _ pd (key ts' F' H' hS) hr,λx C1 ts' F' H' px hC hS=>qx x C1 F' H' _ px hC (key ts' F' H' hS)⟩
end
structure DER where
 nx:Dst->Prop
 rt:D->Dst->Prop
 xr:Str->Dst->Prop
abbrev DSR:=DER->Dst->Prop
structure LkR (K:Frag) (F0 H0:Hp) (De:DER) (En:Ends) (E:XK):Prop where
 nx:∀F H Y G,EnvR K F0 H0 F H Y G->De.nx G->En.nx Y H
 rt:∀F H Y G d v,EnvR K F0 H0 F H Y G->Rep K F d v->De.rt d G->En.rt v H
 xr:∀x C F H Y G,EnvR K F0 H0 F H Y G->De.xr x G->nsIn K mainGlobals x=some (some (.ref C))->E (.ref C) none H
def SimR (K:Frag)(F0 H0:Hp)(E:XK)(t:TS)(T:DSR):Prop:=∀F H Y G De En,EnvR K F0 H0 F H Y G->LkR K F0 H0 De En E->T De G->t En Y H
def rDo (T:DS):DSR:=λDe G=>T {nx:=De.nx,rt:=λ_=>False} G
def rSeq (T U:DSR):DSR:=λDe G=>T {De with nx:=U De} G
def rIf (C:DT)(T U:DSR):DSR:=λDe G=>C G λb=>if b=true then T De G else U De G
def rRet (E:DE):DSR:=λDe G=>E G λd=>De.rt d G
def rRaise (x:Str)(Em:DE):DSR:=λDe G=>Em G λ_=>De.xr x G
section
variable {K:Frag}{F0 H0:Hp}{E:XK}{t u:TS}{T U:DSR}
theorem sR_do {T:DS}(h:SimS K t T):SimR K F0 H0 E t (rDo T):=λF H Y G De En e l w=>h F0 H0 F H Y G {nx:=De.nx,rt:=λ_=>False} _ e ⟨l.nx,λ_ _ _ _ _ z=>z.elim,λ_ _ _ _ _ z=>z.elim,λ_ _ _ _ _ _ z=>z.elim⟩ w
theorem sR_seq (h:SimR K F0 H0 E t T)(g:SimR K F0 H0 E u U):SimR K F0 H0 E (tSeq t u) (rSeq T U):=λF H Y G De En e l w=>
 h F H Y G {De with nx:=U De} _ e ⟨λF1 H1 Y1 G1 e1 w1=>g F1 H1 Y1 G1 De En e1 l w1,l.rt,l.xr⟩ w
theorem sR_if {c:TT}{C:DT}(h:SimT K c C)(ht:SimR K F0 H0 E t T)(hu:SimR K F0 H0 E u U):SimR K F0 H0 E (tIfS c t u) (rIf C T U):=λF H Y G De En e l w=>h F0 H0 F H Y G _ _ e w λb F' H' p x=>by
 cases b with
 |true=>exact iteT (ht F' H' Y G De En (e.on x) l p)
 |false=>exact iteB rfl (hu F' H' Y G De En (e.on x) l p)
theorem sR_ret {te:TE}{Ed:DE}(h:SimF K te Ed):SimR K F0 H0 E (tRet te) (rRet Ed):=λF H Y G De En e l w=>h F0 H0 F H Y G _ _ e w λd v F' H' p x r=>l.rt F' H' Y G d v (e.on x) r p
theorem sR_raise {x:Str}{C:Addr}{tm:TE}{Em:DE}(hC:nsIn K mainGlobals x=some (some (.ref C)))(h:SimB K tm Em):SimR K F0 H0 E (tRaise tm λH'=>E (.ref C) none H') (rRaise x Em):=λF H Y G De En e l w=>
 h F0 H0 F H Y G _ _ e w λd v F' H' p x r=>⟨by rw[length_singleton,sizeLine_eq];decide,l.xr _ C F' H' Y G (e.on x) p hC⟩
end
section
variable {P:Program}{w:World}{K:Frag}{mg:Str->Option Value}{base:Heap}{c m q:Str}{ns:List Str}{st:Stmt}{f:Addr}{fd:FuncData}{N ps:List Str}{k n:Nat}
abbrev endR (c:Str)(ns:List Str)(a:Addr)(Pr:D->List OV->Prop)(X:Str->List OV->Prop):DER where
 nx:=λG=>∃ts',G[0]?=some (some (.own (.ob (some a) c ns ts')))/\Pr .non ts'
 rt:=λd G=>∃ts',G[0]?=some (some (.own (.ob (some a) c ns ts')))/\Pr d ts'
 xr:=λx G=>∃ts',G[0]?=some (some (.own (.ob (some a) c ns ts')))/\X x ts'
theorem obS_of {F H F' H':Hp}{C a dx:Addr}{B:List Addr}{Y:St}{G:Dst}{ts':List OV}(hC:nsIn K mainGlobals c=some (some (.ref C)))(e:EnvR K F (λb=>if b∈a::dx::B then none else H b) F' H' Y G)(h0:G[0]?=some (some (.own (.ob (some a) c ns ts')))):ObS K ns C a dx B F H F' H' ts':=by
 obtain⟨A',e⟩:=e
 obtain⟨v,hv,a',C',dx',vs',B',rfl,eA,g0,go,g1,g2,g3,g4⟩:=e.own 0 _ h0
 obtain rfl:=go a rfl
 rw[hC]at g0
 cases g0
 have hn':=e.nod 0
 rw[eA]at hn'
 refine⟨dx',vs',B',e.ext.ff,e.ext.fh,λb o y z=>?_,λb o y1 y2 y3 y4=>?_,g1,g2,g3,g4,hn',λb hb=>?_⟩
 .exact e.ext.hh b o (by rw[if_neg y];exact z)
 .exact e.ext.no b o y1 (by rw[if_neg y4];exact y2) y3
 .obtain ⟨z1,z2,_⟩:=e.new 0 b (by rw[eA];exact hb)
  refine⟨z1,?_⟩
  by_cases q:b∈a'::dx::B
  .exact .inl q
  .rw [if_neg q]at z2;exact .inr z2
theorem startM_er {F H:Hp}{a C dx:Addr}{ts:List OV}{vs0:List V}{B:List Addr}{rest:List V}{ds:List D}(hC:nsIn K mainGlobals c=some (some (.ref C)))(hs:Same F H)(ha:H a=some (.ins C dx (ns.zip vs0)))(hd:H dx=some (.own a))(hlen:ts.length<=ns.length)(hB:RepOs K F H ts vs0 B)(hnd:(a::dx::B).Nodup)(hnf:∀b∈a::dx::B,F b=none)(hr':Reps K F ds rest):
  ER K F (λb=>if b∈a::dx::B then none else H b) F H (start N (V.ref a::rest)) (startM N c ns a ts ds) (λj=>if j=0 then a::dx::B else []):=by
 have hl:=hr'.length
 refine⟨by simp[start,startM,hl],⟨Same.refl _,λb o z=>?_,hs,λ_ _ z _ _=>z⟩,λi t hi=>?_,λi d hi=>?_,λj=>?_,λj k b hjk y1 y2=>?_,λj b hb=>?_⟩
 .try dsimp only at z
  split at z
  .cases z
  .exact z
 .unfold startM at hi
  cases i with
  |zero=>
   simp at hi
   subst hi
   exact⟨.ref a,rfl,a,C,dx,vs0,B,rfl,rfl,hC,(λ_ z=>Option.some.inj z),ha,hd,hlen,hB⟩
  |succ i=>
   rw[getElem?_cons_succ]at hi
   try dsimp only
   rw[if_neg (by omega)]
   by_cases z:i<ds.length
   .rw [getElem?_append_left (by simpa using z),getElem?_map,getElem?_eq_getElem z]at hi
    simp at hi
    subst hi
    obtain⟨v,g1,g2⟩:=hr'.get (getElem?_eq_getElem z)
    refine⟨v,?_,rfl,g2⟩
    unfold start
    rw[map_cons,cons_append,getElem?_cons_succ,getElem?_append_left (by simp;omega),getElem?_map,g1]
    rfl
   .rw [getElem?_append_right (by simpa using z)]at hi
    have:=mem_of_getElem? hi
    rw[mem_replicate]at this
    cases this.2
 .unfold startM at hi
  cases i with
  |zero=>simp at hi
  |succ i=>
   rw[getElem?_cons_succ]at hi
   by_cases z:i<ds.length
   .rw [getElem?_append_left (by simpa using z),getElem?_map,getElem?_eq_getElem z]at hi
    simp at hi
   .rw [getElem?_append_right (by simpa using z)]at hi
    have:=mem_of_getElem? hi
    rw[mem_replicate]at this
    cases this.2
 .try dsimp only
  split
  .exact hnd
  .exact nodup_nil
 .try dsimp only at y1 y2
  split at y1
  .split at y2
   .omega
   .cases y2
  .cases y1
 .try dsimp only at hb
  split at hb
  .refine ⟨hnf b hb,if_pos hb,?_⟩
   rcases mem_cons.mp hb with y |y
   .rw [y];exact⟨_,ha,rfl⟩
   .rcases mem_cons.mp y with y |y
    .rw [y];exact⟨_,hd,rfl⟩
    .exact hB.isl b y
  .cases hb
theorem okR_of {sp:DMR}(Fn:Fun K m q st f fd)(S:FnScope N ps (defScope st))(hn:n=ps.length)
  (hbody:∀(cdv:Value) (A:Around) (outer:List Env) (s:Shared) (H:Hp) (E:XK),Room k (A.deeper (envOfC q (defScope st) s.heap.objs.size f cdv))->
   ∃t T,PSs (cxOf CX0 P w K mg base N q (defScope st) f cdv A outer s H E).nox (defBody st) t/\(∀F0 H0,SimR K F0 H0 E t T)/\∀(a:Addr) ts ds Pr X,sp ts ds Pr X->T (endR c ns a Pr λ_ _=>False) (startM N c ns a ts ds)):
  FnOk P w K mg base CX0 (k+1) f fd ps (spR K n c ns sp):=
 Fn.ok S (λvs H Q E h=>by rw[<- hn];exact h.1) λcdv A outer s H vs Q E hr h=>by
  obtain⟨_,F,a,C,dx,ts,vs0,B,rest,ds,Pr,X,rfl,hC,hs,ha,hd,hlen,hB,hnd,hnf,hr',hsp,hq,hE⟩:=h
  obtain⟨t,T,h1,h2,h3⟩:=hbody cdv A outer s H E hr
  refine⟨t,h1,h2 F _ F H _ _ _ _ ⟨_,startM_er (N:=N) hC hs ha hd hlen hB hnd hnf hr'⟩ ⟨λF' H' Y G e p=>?_,λF' H' Y G d v e r p=>?_,λ_ _ _ _ _ _ _ z=>?_⟩ (h3 a ts ds Pr X hsp)⟩
  .obtain ⟨ts',h0,hp⟩:=p
   exact hq .non .non ts' F' H' hp (obS_of hC e h0) rfl
  .obtain ⟨ts',h0,hp⟩:=p
   exact hq d v ts' F' H' hp (obS_of hC e h0) r
  .obtain ⟨_,_,z⟩:=z
   exact z.elim
theorem okRX_of {sp:DMR}(Fn:Fun K m q st f fd)(S:FnScope N ps (defScope st))(hn:n=ps.length)
  (hbody:∀(cdv:Value) (A:Around) (outer:List Env) (s:Shared) (H:Hp) (E:XK),Room k (A.deeper (envOfC q (defScope st) s.heap.objs.size f cdv))->
   ∃t T,PSs (cxOf (CXE P w) P w K mg base N q (defScope st) f cdv A outer s H E) (defBody st) t/\(∀F0 H0,SimR K F0 H0 E t T)/\∀(a:Addr) ts ds Pr X,sp ts ds Pr X->T (endR c ns a Pr X) (startM N c ns a ts ds)):
  FnOk P w K mg base (CXE P w) (k+1) f fd ps (spR K n c ns sp):=by
 obtain⟨oc,od,kV,doc,pm,an,cdv,ct,osl,rfl,lk,hcd⟩:=Fn.ex
 refine fn_of lk hcd S (λvs H Q E h=>by rw[<- hn];exact h.1) λA outer s H vs Q E hr h=>?_
 obtain⟨_,F,a,C,dx,ts,vs0,B,rest,ds,Pr,X,rfl,hC,hs,ha,hd,hlen,hB,hnd,hnf,hr',hsp,hq,hE⟩:=h
 obtain⟨t,T,h1,h2,h3⟩:=hbody cdv A outer s H E hr
 refine⟨t,h1,h2 F _ F H _ _ _ _ ⟨_,startM_er (N:=N) hC hs ha hd hlen hB hnd hnf hr'⟩ ⟨λF' H' Y G e p=>?_,λF' H' Y G d v e r p=>?_,λx C1 F' H' Y G e p hx=>?_⟩ (h3 a ts ds Pr X hsp)⟩
 .obtain ⟨ts',h0,hp⟩:=p
  exact hq .non .non ts' F' H' hp (obS_of hC e h0) rfl
 .obtain ⟨ts',h0,hp⟩:=p
  exact hq d v ts' F' H' hp (obS_of hC e h0) r
 .obtain ⟨ts',h0,hp⟩:=p
  exact hE x C1 ts' F' H' hp hx (obS_of hC e h0)
theorem CalO.of {sp:DMR}(Df:DefAt K mg m st f fd)(S:FnScope N ps (defScope st))
  (hb:∀(kV doc pm:Value) (an:Option Addr) (cdv ct:Value) (us:List Value),us.length=ps.length->bindArgs (fnOf m m (defArgs st) (defBody st) (defScope st) .none kV doc pm an cdv ct) ⟨us,[]⟩=pure (ps.zip us)) (hn:n=ps.length)
  (hbody:∀(cdv:Value) (A:Around) (outer:List Env) (s:Shared) (H:Hp) (E:XK),Room k (A.deeper (envOfC m (defScope st) s.heap.objs.size f cdv))->
   ∃t T,PSs (cxOf CX0 P w K mg base N m (defScope st) f cdv A outer s H E).nox (defBody st) t/\(∀F0 H0,SimR K F0 H0 E t T)/\∀(a:Addr) ts ds Pr X,sp ts ds Pr X->T (endR c ns a Pr λ_ _=>False) (startM N c ns a ts ds)):
  Cal P w K mg base m (k+1) ps (spR K n c ns sp):=
 ⟨f,fd,okR_of Df.fn S hn hbody,Df.here,Df.fn.kp,Df.fn.binds hb⟩
end
abbrev DEf:=Dst->(D->Dst->Prop)->Prop
abbrev DTf:=Dst->(Bool->Dst->Prop)->Prop
def SimEf (K:Frag)(t:TE)(E:DEf):Prop:=∀F0 H0 F H Y G P Q,EnvR K F0 H0 F H Y G->E G P->(∀d v F' H' G',P d G'->EnvR K F0 H0 F' H' Y G'->Rep K F' d v->Q v H')->t Y H Q
def SimTf (K:Frag)(t:TT)(C:DTf):Prop:=∀F0 H0 F H Y G P Q,EnvR K F0 H0 F H Y G->C G P->(∀b F' H' G',P b G'->EnvR K F0 H0 F' H' Y G'->Q b H')->t Y H Q
def eF (E:DE):DEf:=λG P=>E G λd=>P d G
def eT (C:DT):DTf:=λG P=>C G λb=>P b G
def eCall (i:Nat)(c:Str)(ns:List Str)(n:Nat)(sp:DMR)(As:DA):DEf:=λG P=>match G[i]? with
 |some (some (.own (.ob o c' ns' ts)))=>c'=c/\ns'=ns/\As G λds=>ds.length+1=n/\sp ts ds (λd ts'=>P d (G.set i (some (.own (.ob o c ns ts'))))) λ_ _=>False
 |_=>False
def eOp (r:DR2)(Ea:DEf)(Eb:DE):DEf:=λG P=>Ea G λx G'=>Eb G' λy=>r x y λd=>P d G'
def eTb (E:DEf):DTf:=λG P=>E G λd G'=>match d with
 | .bl b=>P b G'
 |_=>False
def eNot (C:DTf):DTf:=λG P=>C G λb G'=>P (!b) G'
def eOr (Ca Cb:DTf):DTf:=λG P=>Ca G λb G'=>if b=true then P true G' else Cb G' P
def eAndV (Ea Eb:DEf):DEf:=λG P=>Ea G λx G'=>match x with
 | .bl true=>Eb G' P
 | .bl false=>P (.bl false) G'
 |_=>False
def sIfE (C:DTf)(T U:DS):DS:=λDe G=>C G λb G'=>if b=true then T De G' else U De G'
def rRetE (E:DEf):DSR:=λDe G=>E G λd G'=>De.rt d G'
section
variable {K:Frag}{ta tb:TE}{Ea Eb:DEf}{Eb':DE}{ua ub:TT}{Ca Cb:DTf}{t u:TS}{T U:DS}
theorem ef_f {E:DE}(h:SimF K ta E):SimEf K ta (eF E):=λF0 H0 F H Y G P Q e w q=>h F0 H0 F H Y G _ _ e w λd v F' H' p x r=>q d v F' H' G p (e.on x) r
theorem tf_t {C:DT}(h:SimT K ua C):SimTf K ua (eT C):=λF0 H0 F H Y G P Q e w q=>h F0 H0 F H Y G _ _ e w λb F' H' p x=>q b F' H' G p (e.on x)
theorem ef_call {i n:Nat}{c:Str}{ns:List Str}{sp:DMR}{a:TA}{As:DA}(ha:SimAF K a As):SimEf K (tCall (spR K n c ns sp) [] E0 (tCons (tVar i) a)) (eCall i c ns n sp As):=λF0 H0 F H Y G P Q e w q=>by
 unfold eCall at w
 split at w
 .rename_i o c' ns' ts hs
  obtain⟨rfl,rfl,w⟩:=w
  have e0:=e
  obtain⟨A,e⟩:=e
  obtain⟨v,hv,p,C,dx,vs,B,rfl,eA,h0,ho,h1,h2,hl,h3⟩:=e.own i _ hs
  refine⟨_,hv,ha F0 H0 F H Y G _ _ e0 w λds us F1 H1 w1 x1 r1=>?_⟩
  show spR K n c' ns' sp (V.ref p::us++[]) H1 Q E0
  rw[append_nil]
  exact spR_of (X:=λ_ _=>False) (e0.on x1) hs hv w1.1 r1 w1.2 q λ_ _ _ _ _ z=>z.elim
 .exact w.elim
theorem ef_op {R:R2}{r:DR2}(ho:OpS K R r)(ha:SimEf K ta Ea)(hb:SimB K tb Eb'):SimEf K (tOp R ta tb) (eOp r Ea Eb'):=λF0 H0 F H Y G P Q e w q=>
 ha F0 H0 F H Y G _ _ e w λx v F1 H1 G1 w1 e1 r1=>hb F0 H0 F1 H1 Y G1 _ _ e1 w1 λy u F2 H2 w2 x2 r2=>
  ho F2 H2 x y v u _ _ x2.fh ((r1.mono x2.ff).mono x2.fh) r2 w2 λd z F' H' p x' r'=>q d z F' H' G1 p ((e1.on x2).on x') r'
theorem tf_b (h:SimEf K ta Ea):SimTf K (tB ta) (eTb Ea):=λF0 H0 F H Y G P Q e w q=>h F0 H0 F H Y G _ _ e w λd v F' H' G' p e' r=>by
 try dsimp only at p
 split at p
 .cases (show v = .bl _ from r)
  exact⟨_,rfl,q _ F' H' G' p e'⟩
 .exact p.elim
theorem tf_test (h:SimEf K ta Ea):SimTf K (tTest ta) (eTb Ea):=tf_b h
theorem tf_not (h:SimTf K ua Ca):SimTf K (tNot ua) (eNot Ca):=λF0 H0 F H Y G P Q e w q=>h F0 H0 F H Y G _ _ e w λb F' H' G' p e'=>q _ F' H' G' p e'
theorem tf_or (h:SimTf K ua Ca)(g:SimTf K ub Cb):SimTf K (tOr ua ub) (eOr Ca Cb):=λF0 H0 F H Y G P Q e w q=>h F0 H0 F H Y G _ _ e w λb F' H' G' p e'=>by
 cases b with
 |true=>exact iteT (q _ F' H' G' p e')
 |false=>exact iteB rfl (g F0 H0 F' H' Y G' _ _ e' p q)
theorem ef_andV (ha:SimEf K ta Ea)(hb:SimEf K tb Eb):SimEf K (tAndV ta tb) (eAndV Ea Eb):=λF0 H0 F H Y G P Q e w q=>ha F0 H0 F H Y G _ _ e w λd v F' H' G' p e' r=>by
 try dsimp only at p
 split at p
 .cases (show v = .bl _ from r)
  exact⟨_,rfl,iteT (hb F0 H0 F' H' Y G' _ _ e' p q)⟩
 .cases (show v = .bl _ from r)
  exact⟨_,rfl,iteB rfl (q _ _ F' H' G' p e' rfl)⟩
 .exact p.elim
theorem sS_ifE (h:SimTf K ua Ca)(ht:SimS K t T)(hu:SimS K u U):SimS K (tIfS ua t u) (sIfE Ca T U):=λF0 H0 F H Y G De En e l w=>h F0 H0 F H Y G _ _ e w λb F' H' G' p e'=>by
 cases b with
 |true=>exact iteT (ht F0 H0 F' H' Y G' De En e' l p)
 |false=>exact iteB rfl (hu F0 H0 F' H' Y G' De En e' l p)
theorem sR_retE {F0 H0:Hp}{E:XK}(h:SimEf K ta Ea):SimR K F0 H0 E (tRet ta) (rRetE Ea):=λF H Y G De En e l w=>h F0 H0 F H Y G _ _ e w λd v F' H' G' p e' r=>l.rt F' H' Y G' d v e' r p
end
structure CalMX (P:Program) (w:World) (K:Frag) (mg:Str->Option Value) (base:Heap) (c m:Str) (k:Nat) (ps:List Str) (sp:Sp):Prop where
 ex:∃C f fd,nsIn K mainGlobals c=some (some (.ref C))/\Cls K C/\Meth K C m f/\FnOk P w K mg base (CXE P w) k f fd ps sp/\Binds K fd ps []
def tTryM (K:Frag)(c m:Str)(W:Addr)(ni:Nat)(sp:Sp)(ta:TE)(t:TA)(th:TS):TS:=λD Y H=>∃C,nsIn K mainGlobals c=some (some (.ref C))/\ta Y H λx H1=>∃a dx fs,x = .ref a/\H1 a=some (.ins C dx fs)/\fs.lookup m=none/\t Y H1 λvs H2=>
 sp (x::vs) H2 (λ_ H3=>D.nx Y H3) λcls _ H3=>∃C,cls = .ref C/\exmOne K (.ref C) (.ref W)=some true/\
  ∀a,H3 a=none->th {nx:=λY' H'=>D.nx (Y'.set ni none) H',rt:=λ_ _=>False} (Y.set ni (some (.ref a))) (upd H3 a (.ext (clsφ a (.ref C))))
section
variable {X:Cx}
theorem ps_tryM {W:Addr}{c m wx n:Str}{k ni:Nat}{ps:List Str}{sp:Sp}{o e:Expr}{es:List Expr}{ta:TE}{t:TA}{th:TS}{b₀:Stmt}{suite:List Stmt}{np cpos apos epos hpos tpos:Pos}{pl:Sem Bool}
  (hst:X.stack=X.env::X.outer) (hfl:X.env.frame=some X.env.locals) (hxe:∀e s',¬ X.xe e s') (CC:CalMX X.prog X.w X.K X.mg X.base c m k ps sp) (hr:Room k X.A) (heo:PE X o ta) (ha:PA X (e::es) t)
  (hgw:Gl X wx) (hmw:X.mg wx=some (.ref W)) (hN:X.N.Nodup) (hi:X.N[ni]?=some n) (hloc:X.env.scope.names.lookup n=some .local) (hnl:X.env.kindOf n=some .local) (hth:∀a,PSs (X.hdl a) (b₀::suite) th)
  (hdw:(wx==("__debug__":Str))=false:=by decide) (he:starEach (e::es) X.env=(false,eval e X.env)::starEach es X.env:=by rfl) (hpl:(backTo cpos (starEach es X.env)).any (·.1)=false:=by rfl)
  (ht:eval (.Call (.Attribute o m apos) (e::es) [] cpos) X.env=(do
   let ov <- eval o X.env
   standAt apos.atName
   let (f,first) <- holding [ov] (getMethod ov m pl)
   callWith cpos f first (backTo cpos (starEach (e::es) X.env)) (backToKw cpos (keywordEach [] X.env))):=by rfl)
  (hsw:swapsWith (.Call (.Attribute o m apos) (e::es) [] cpos) none epos.line X.env=pure false:=by rfl):
  PS X (.Try [.Expr (.Call (.Attribute o m apos) (e::es) [] cpos) epos] [.ExceptHandler (some (.Name wx np)) (some n) (b₀::suite) hpos] [] [] tpos) (tTryM X.K c m W ni sp ta t th):=by
 intro pins s Y H D I ⟨C',hC',h⟩
 obtain⟨C,f,fd,hC,cl,hm,F,hb⟩:=CC.ex
 rw[hC]at hC'
 cases hC'
 refine wpAny_Try_except ?_
 refine wpAny_execs_cons (wpAny_Expr_any (methodCall_KW (pl:=pl) (wpAny_mono (heo pins s Y H _ I h) (λu s0 ⟨x,H0,I0,rx,a0,dx,fs,ex,ea,l,q⟩=>?_) λe s' z=>absurd z (hxe e s')) ht) I.quiet hsw)
 subst ex
 obtain rfl:u=Value.ref a0:=rx
 refine getmeth_ok I0 ea cl hm l ?_
 refine callWith_K (first:=[.ref a0]) (h₀:=X.base) I.ok.mod.kin hm.kp (wpAny_mono (ha cpos pins s0 Y H0 _ I0 q) (λus s1 ⟨vs,H1,I1,r,q⟩=>⟨I1.kIn,?_⟩) λe s' z=>absurd z (hxe e s')) he hpl
 have r2:Vals (V.ref a0::vs) (Value.ref a0::us):=.cons rfl r
 have hl:((Value.ref a0::us)++[]).length=ps.length:=by rw[append_nil,<- r2.length];exact F.len _ _ _ _ q
 have hbt:=hb s1 (Value.ref a0::us) I1.kIn hl
 rw[append_nil]at hbt
 refine wpAny_call (codeAny_mono (F.run X.A X.stack s1 H1 ⟨Value.ref a0::us,[]⟩ (Value.ref a0::us) _ _ _ hr I1.env0 hbt r2 q) λres s' hq=>?_)
 cases res with
 |ok fl=>
  cases fl with
  |ret u=>
   obtain⟨v,H',I',r',z⟩:=I1.after hq
   exact wpAny_execs_nil (wpAny_execs_nil ⟨Y,H',I',z⟩)
  |_=>exact False.elim hq
 |error ev=>
  obtain⟨a,C1,a1,B,H',rfl,⟨C2,hCe,hex,hth'⟩,fl,agree,un,hok,bare,hos,hna⟩:=hq
  cases hCe
  have hfr:X.A.frames=some (X.env::X.outer):=by rw[<- hst];exact I.ok.frames
  have fl0:=fl
  rw[hst]at fl
  refine wpAny_looks_onW hfr hfl fl λh4 held4 sm4=>?_
  refine wpAny_landsW held4 λh5 fl5 sm5=>?_
  have sm45:=sm4.trans sm5
  have fl5':Heap.FlyingW B X.stack a (.ref C1) a1 h5:=by rw[hst];exact fl5
  have I5:=(I1.caught fl0 agree un hok bare hos hna fl5' sm45).hdl a
  refine wpAny_handleBy_cons (codeAny_handlers_test (ld_glob (X:=X.hdl a) I5 hgw hmw ?_ hdw)) (by intro q;cases q)
  have LT:Looks (model X.prog X.w) h5 (typeOf (.ref a)) (.ref C1):=by
   obtain⟨ob,hob,hc⟩:=fl5.there
   rw[<- hc]
   exact (Looks.ld hob).andThen .now
  refine (PySem.W.exm_one (M:=model X.prog X.w) (h:=h5) I5.kIn LT hex).here ?_
  refine codeAny_handlers_suite_as ?_
  refine lands_againW fl5 λh6 fl6 sm6=>?_
  have fl6':Heap.FlyingW B X.stack a (.ref C1) a1 h6:=by rw[hst];exact fl6
  have I6:=(I1.caught fl0 agree un hok bare hos hna fl6' (sm45.trans sm6)).hdl a
  refine store_ok (X:=X.hdl a) I6 hN hi (.inl hloc) (v:=.ref a) rfl (λs7 I7=>?_) (.inr hloc)
  refine wpAny_mono (hth a pins s7 _ _ _ I7 (hth' a hna)) (λfw s8 q8=>?_) (λe s8 z=>z.elim)
  cases fw with
  |next=>
   obtain⟨Y',Hn,I8,q⟩:=q8
   have I8':Inv X pins Y' Hn s8:=I8.unhdl I.ok
   obtain⟨m,hn,hlo⟩:=id I8'.loc
   refine wpAny_nameGoes_keeps hnl hn (by rw[I.ok.kind];rfl) λh9 v9 hn9 sb9=>?_
   exact⟨Y'.set ni none,Hn,I8'.goes hN hi hlo hn9 sb9,q⟩
  |ret u=>obtain⟨v,Y',Hn,I8,_,z⟩:=q8;exact z.elim
  |brk=>obtain⟨Y',Hn,I8,z⟩:=q8;exact False.elim z
  |cont=>obtain⟨Y',Hn,I8,z⟩:=q8;exact False.elim z
end
def sTryM (i ni n:Nat)(c:Str)(ns:List Str)(sp:DMR)(cs:List Str)(As:DA)(Th:DS):DS:=λDe G=>match G[i]? with
 |some (some (.own (.ob o c' ns' ts)))=>c'=c/\ns'=ns/\As G λds=>ds.length+1=n/\sp ts ds (λ_ ts'=>De.nx (G.set i (some (.own (.ob o c ns ts'))))) λx ts'=>x∈cs/\Th {nx:=λG'=>De.nx (G'.set ni none),rt:=λ_=>False} ((G.set i (some (.own (.ob o c ns ts')))).set ni (some (.own (.fz (.exc x)))))
 |_=>False
section
variable {K:Frag}
theorem sS_tryM {W:Addr}{i ni n:Nat}{c m:Str}{ns:List Str}{sp:DMR}{cs:List Str}{a:TA}{As:DA}{th:TS}{Th:DS}(hm:m∉ns)(hW:∀c∈cs,∀C,nsIn K mainGlobals c=some (some (.ref C))->exmOne K (.ref C) (.ref W)=some true)(ha:SimAF K a As)(hth:SimS K th Th):
  SimS K (tTryM K c m W ni (spR K n c ns sp) (tVar i) a th) (sTryM i ni n c ns sp cs As Th):=λF0 H0 F H Y G De En e l w=>by
 unfold sTryM at w
 split at w
 .rename_i o c' ns' ts hs
  obtain⟨rfl,rfl,w⟩:=w
  have e0:=e
  obtain⟨A,e⟩:=e
  obtain⟨v,hv,p,C,dx,vs,B,rfl,eA,h0,ho,h1,h2,hl,h3⟩:=e.own i _ hs
  refine⟨C,h0,_,hv,p,dx,_,rfl,h1,lk_zip_none hm,ha F0 H0 F H Y G _ _ e0 w λds us F1 H1 w1 x1 r1=>?_⟩
  refine spR_of (P:=λ_ G'=>De.nx G') (X:=λx G'=>x∈cs/\Th {nx:=λG''=>De.nx (G''.set ni none),rt:=λ_=>False} (G'.set ni (some (.own (.fz (.exc x)))))) (e0.on x1) hs hv w1.1 r1 w1.2 (λd v F' H' G' p e' r=>l.nx F' H' Y G' e' p) λx C1 F' H' G' p hC e'=>?_
  obtain⟨hc,p⟩:=p
  refine⟨C1,rfl,hW x hc C1 hC,λy hy=>?_⟩
  have fh:=(EnvR.ext e').fh
  have x2:Ext F' H' (upd F' y (.ext (clsφ y (.ref C1)))) (upd H' y (.ext (clsφ y (.ref C1)))):=Ext.new fh hy (Same.new hy) upd_same
  have e2:=e'.put x2 ni (r:=.fz (.exc x)) (v:=.ref y) (.fz ⟨y,C1,rfl,hC,upd_same⟩)
  refine hth F0 H0 _ _ _ _ {nx:=λG''=>De.nx (G''.set ni none),rt:=λ_=>False} _ e2 ⟨λF3 H3 Y3 G3 e3 q3=>?_,λ_ _ _ _ _ z=>z.elim,λ_ _ _ _ _ z=>z.elim,λ_ _ _ _ _ _ z=>z.elim⟩ p
  obtain⟨A3,e3⟩:=e3
  exact l.nx F3 H3 _ _ ⟨_,e3.clr ni⟩ q3
 .exact w.elim
end
section
variable {P:Program}{w:World}{K:Frag}{mg:Str->Option Value}{base:Heap}{c m q:Str}{ns:List Str}{st:Stmt}{f:Addr}{fd:FuncData}{N ps:List Str}{k n:Nat}
theorem CalMX.of {sp:DMR}(Df:MetAt K c m q st f fd)(S:FnScope N ps (defScope st))
  (hb:∀(kV doc pm:Value) (an:Option Addr) (cdv ct:Value) (us:List Value),us.length=ps.length->bindArgs (fnOf m q (defArgs st) (defBody st) (defScope st) .none kV doc pm an cdv ct) ⟨us,[]⟩=pure (ps.zip us)) (hn:n=ps.length)
  (hbody:∀(cdv:Value) (A:Around) (outer:List Env) (s:Shared) (H:Hp) (E:XK),Room k (A.deeper (envOfC q (defScope st) s.heap.objs.size f cdv))->
   ∃t T,PSs (cxOf (CXE P w) P w K mg base N q (defScope st) f cdv A outer s H E) (defBody st) t/\(∀F0 H0,SimR K F0 H0 E t T)/\∀(a:Addr) ts ds Pr X,sp ts ds Pr X->T (endR c ns a Pr X) (startM N c ns a ts ds)):
  CalMX P w K mg base c m (k+1) ps (spR K n c ns sp):=by
 obtain⟨C,hC,cl,hm⟩:=Df.cl
 exact⟨C,f,fd,hC,cl,hm,okRX_of Df.fn S hn hbody,Df.fn.binds hb⟩
end
def iAny (K:Frag)(te:TE):TI:=λY H R=>iStr te Y H R∨iList K te Y H R
theorem pi_any {X:Cx}{tg l:Expr}{te:TE}(he:PE X l te):PI X tg l (iAny X.K te):=λpins s Y H R I h=>h.elim (pi_str he pins s Y H R I) (pi_list he pins s Y H R I)
def dItA (E:DE):DA:=λG P=>dItS E G P∨dItL E G P
theorem sI_any {K:Frag}{t:TE}{E:DE}(h:SimF K t E):SimI K (iAny K t) (dItA E):=λF0 H0 F H Y G P R e w q=>w.elim (λw=>.inl (sI_str (sB_f h) F0 H0 F H Y G P R e w q)) λw=>.inr (sI_list h F0 H0 F H Y G P R e w q)
theorem rSeq_k {T U:DSR}{De:DER}{G:Dst}(h:∀N:Dst->Prop,(∀G',U De G'->N G')->T {De with nx:=N} G):rSeq T U De G:=h _ λ_ z=>z
end L2
namespace Lw
open PySem L2 PyProof.Rows
def top (i:Nat):Stmt:=PySem.Challenge.pw_liftwave_k32_reader_refuses.main.body.getD i (.Pass ⟨0,0,0,0⟩)
abbrev vD (d:D):Option Sl:=some (.own (.fz d))
abbrev vI (i:Int):Option Sl:=some (.own (.fz (.int i)))
set_option hygiene false
local macro_rules | `(tactic|walk_at "b")=>`(tactic|first |exact (λ_ _ _ _ _ _ us hl=>match us,hl with | [_],_=>rfl) |exact (λ_ _ _ _ _ _ us hl=>match us,hl with | [_,_],_=>rfl) |exact (λ_ _ _ _ _ _ us hl=>match us,hl with | [_,_,_],_=>rfl))
local macro_rules | `(tactic|walk_at "S")=>`(tactic|exact⟨rfl,rfl,rfl,by decide +kernel,rfl,by decide +kernel,by decide +kernel⟩)
local macro_rules | `(tactic|fin2)=>`(tactic|simp only[rDo,rIf,rRet,rRetE,rRaise,eF,eT,eCall,eOp,eTb,eNot,eOr,eAndV,sIfE,sTryM,dItA,vD,vI,startV,sNext,sSeq,sBreak,sRet,sRetV,sIf,sSet,sAsg,sApp,sExt,sFrz,sNever,dCatL,sFor,gN,gsNil,gsCons,gT,dFz,dVal,dLf,dV,dB,dC,dOp,dUn,rU1,rI2,rI2C,rEqD,rNeD,dTb,dNot,dAnd,dOr,dAndV,dNotV,dChain,dNil,dCons,dNilO,dConsO,dTup,dLst,ixL,ixT,dCB,dCBo,lenD,lenS,tupD,dNoPt,dPt,dSlL,dCall,dCallB,dItL,dItT,dRng1,blkD,dComp,isiD,kitB,catTD,eqND,neND,D.same,allD,dZipT,dCatB,dRep1,dTruth,isxM,dStrip,sMethF,sFExtT,dFld,sFSet,sFNew,sFAug,sFApp,sMeth,dMethP,dMake,startM,dListRev,mulSD,addSD,dSlS,dItS,OV.val,OV.vals,OV.vals_eq,D.lf,D.lfs,OV.lf,OV.lfs,map_cons,map_nil,cons_append,nil_append,length_cons,length_nil,List.replicate,Nat.reduceAdd,Nat.reduceSub,Nat.reduceLeDiff,List.getElem?_cons_zero,getElem?_cons_succ,set_cons_zero,set_cons_succ,Bool.not_true,Bool.not_false,Bool.true_and,Bool.and_true,true_and,and_true,if_true,if_false,false_eq_true,length_map,decide_eq_true_eq,Option.some.injEq,Sl.own.injEq,OV.ob.injEq,exists_eq_left',val_fzI,app_fzI,CDiv,CMul,CPow,Int.reduceLT,Int.reduceLE,Int.reduceNeg,Int.reducePow,Int.reduceToNat,Int.reduceAdd,Int.reduceSub,true_or,or_true,kn_int,kn_bool,kn_tuple,String.reduceBEq,decide_true,Bool.or_false,Bool.not_not,ne_eq,not_true,atI_c0,atI_c1,atI_c2,atI_c3,atI_c4,beq_self_eq_true,Bool.true_or,Bool.or_true])
local macro_rules | `(tactic|gn_on)=>`(tactic| (refine sSeq_k λN hN=>?_;fin2))
local macro_rules | `(tactic|gp_on)=>`(tactic| (refine hN _ ?_;clear hN;clear N))
set_option hygiene true
section
variable (P:Program)(w:World){K:Frag}{mg:Str->Option Value}(base:Heap)
seal L2.PA L2.PE L2.PS L2.PSs L2.PT L2.PW L2.PG L2.PGs L2.PO L2.PI
abbrev exB:Str×List (Str×Bool)×List (String×Bool):=("NoBits",[("NoBits",true),("TooMany",false),("NoHead",false),("NoPicture",false),("NoLadder",false),("NoLevel",false),("NoPiece",false),("NoText",false),("NoRow",false)],[("ValueError",true)])
abbrev exT:Str×List (Str×Bool)×List (String×Bool):=("TooMany",[("NoBits",false),("TooMany",true),("NoHead",false),("NoPicture",false),("NoLadder",false),("NoLevel",false),("NoPiece",false),("NoText",false),("NoRow",false)],[("ValueError",true)])
abbrev excM:List (Str×List (Str×Bool)×List (String×Bool)):=[exB,exT]
def bitS (b:Bool):Str:=if b then "1" else "0"
theorem bitS_len (b:Bool):(bitS b).length=1:=by cases b<;>rfl
theorem fm_range {α:Type}:∀l:List α,(List.range l.length).filterMap (λk=>l[k]?)=l
 | []=>rfl
 |a::l=>by
  rw[length_cons,List.range_succ_eq_map,filterMap_cons]
  simp only[List.getElem?_cons_zero]
  rw[List.filterMap_map]
  have e:((λk=>(a::l)[k]?)∘Nat.succ)=λk=>l[k]?:=by funext k;simp
  rw[e,fm_range l]
theorem idx_from {n i:Nat}(h:i<=n):Builtin.Str.strSliceIndices (some (i:Int)) none 1 n=(List.range (n-i)).map λk=>i+k:=by
 unfold Builtin.Str.strSliceIndices sliceRange
 have e0:¬ ((i:Int)<0):=by omega
 simp only[e0,if_false,show (1:Int) > 0 by decide,if_true]
 have e:max 0 (min (i:Int) (n:Int))=(i:Int):=by omega
 rw[e]
 have c:(if (i:Int)<(n:Int) then ((n:Int)-(i:Int)+1-1) / 1 else 0).toNat=n-i:=by
  split
  .rw [ediv_one];(clear h e0;omega)
  .omega
 rw[c]
 refine List.map_congr_left λk _=>?_
 clear h e0;omega
theorem txt_from (x:Str){i:Nat}(h:i<=x.length):Txt.slice x (some (i:Int)) none=⟨(x.cps.toList.drop i).toArray⟩:=by
 have e:((List.range (x.length-i)).map λk=>i+k).filterMap (x.cps[·]?)=x.cps.toList.drop i:=by
  rw[List.filterMap_map]
  have:=fm_range (x.cps.toList.drop i)
  rw[length_drop,length_toList]at this
  rw[<- this]
  refine congrArg (λg=>List.filterMap g _) (funext λk=>?_)
  simp[getElem?_drop]
 unfold Txt.slice
 rw[idx_from h]
 split
 .rename_i c
  have hi:i=0:=by simp at c;omega
  subst hi
  simp
 .rw [e]
def strOf (bs:List Bool):Str:=Txt.join "" (bs.map bitS)
theorem strOf_nil:strOf []=Str.empty:=rfl
theorem str_emp:(Str.ofString "")=⟨#[]⟩:=by decide +kernel
theorem strOf_cons (b:Bool)(bs:List Bool):strOf (b::bs)=bitS b++strOf bs:=by
 unfold strOf
 rw[show ∀l,Txt.join (Str.ofString "") l=Str.join (Str.ofString "") l from λl=>PySem.StrLaws.glued_eq_join _ l,show ∀l,Txt.join (Str.ofString "") l=Str.join (Str.ofString "") l from λl=>PySem.StrLaws.glued_eq_join _ l]
 cases bs with
 |nil=>exact (Str.append_empty _).symm
 |cons c cs=>
  show bitS b++Str.ofString ""++Str.join (Str.ofString "") (bitS c::cs.map bitS)=_
  rw[str_emp,show (bitS b++(⟨#[]⟩:Str))=bitS b from Str.append_empty _]
  rfl
theorem app_len (x y:Str):(x++y).length=x.length+y.length:=by
 show (x.cps++y.cps).size=_
 rw[size_append]
 rfl
theorem strOf_len:∀bs:List Bool,(strOf bs).length=bs.length
 | []=>rfl
 |b::bs=>by rw[strOf_cons,app_len,strOf_len bs,bitS_len,length_cons];omega
theorem strOf_app:∀(as bs:List Bool),strOf (as++bs)=strOf as++strOf bs
 | [],bs=>(Str.empty_append _).symm
 |a::as,bs=>by rw[cons_append,strOf_cons,strOf_app as bs,strOf_cons,Str.append_assoc]
theorem sgns_app (x y:Str):sgns (x++y)=sgns x++sgns y:=by
 show (x.cps++y.cps).toList.map _=_
 rw[toList_append,map_append]
 rfl
theorem sgns_bit (b:Bool):sgns (bitS b)=[bitS b]:=by cases b<;>decide +kernel
theorem sgns_strOf:∀bs:List Bool,sgns (strOf bs)=bs.map bitS
 | []=>rfl
 |b::bs=>by rw[strOf_cons,sgns_app,sgns_bit,sgns_strOf bs];rfl
theorem bitS_one (b:Bool):decide (bitS b=Str.ofString "1")=b:=by cases b<;>decide +kernel
theorem idx_to {n i:Nat}(h:i<=n):Builtin.Str.strSliceIndices none (some (i:Int)) 1 n=List.range i:=by
 unfold Builtin.Str.strSliceIndices sliceRange
 have e0:¬ ((i:Int)<0):=by omega
 simp only[e0,if_false,show (1:Int) > 0 by decide,if_true]
 have e:max 0 (min (i:Int) (n:Int))=(i:Int):=by omega
 rw[e]
 have c:(if (0:Int)<(i:Int) then ((i:Int)-0+1-1) / 1 else 0).toNat=i:=by
  split
  .rw [ediv_one];(clear h e0;omega)
  .clear h e0;omega
 rw[c]
 refine List.ext_getElem? λk=>?_
 by_cases hk:k<i
 .simp [hk]
 .simp [hk]
theorem fm_take {α:Type}(l:List α){i:Nat}(h:i<=l.length):(List.range i).filterMap (λk=>l[k]?)=l.take i:=by
 have e:∀n:Nat,n<=l.length->(List.range n).filterMap (λk=>l[k]?)=l.take n:=by
  intro n
  induction n with
  |zero=>intro _;simp
  |succ n ih=>
   intro hn
   rw[List.range_succ,List.filterMap_append,ih (by omega),List.take_add_one,getElem?_eq_getElem (by omega)]
   simp[getElem?_eq_getElem (show n<l.length by omega)]
 exact e i h
theorem txt_to (x:Str){i:Nat}(h:i<=x.length):Txt.slice x none (some (i:Int))=⟨(x.cps.toList.take i).toArray⟩:=by
 have e:(List.range i).filterMap (x.cps[·]?)=x.cps.toList.take i:=by
  rw[<- fm_take x.cps.toList (show i<=x.cps.toList.length by rw[length_toList];exact h)]
  simp
 unfold Txt.slice
 rw[idx_to h]
 split
 .rename_i c
  have hi:i=x.length:=by simpa using c
  rw[hi,show x.length=x.cps.toList.length by simp;rfl,take_length]
 .rw [e]
theorem str_take (bs:List Bool){i:Nat}(h:i<=bs.length):Txt.slice (strOf bs) none (some (i:Int))=strOf (bs.take i):=by
 rw[txt_to _ (by rw[strOf_len];exact h)]
 have e:strOf bs=strOf (bs.take i)++strOf (bs.drop i):=by rw[<- strOf_app,take_append_drop]
 have hl:(strOf (bs.take i)).cps.toList.length=i:=by
  have:=strOf_len (bs.take i)
  rw[length_take,min_eq_left h]at this
  rw[length_toList]
  exact this
 rw[e]
 show (⟨(((strOf (bs.take i)).cps++(strOf (bs.drop i)).cps).toList.take i).toArray⟩:Str)=_
 rw[toList_append,List.take_append_of_le_length (by omega),take_of_length_le (by omega)]
theorem rep_cps (b:Bool):∀(m:Nat) (a:Array Nat),(List.replicate m (bitS b).cps).foldl (·++·) a=a++(strOf (List.replicate m b)).cps
 | 0,a=>by
  show a=a++#[]
  simp
 |m+1,a=>by
  rw[replicate_succ,foldl_cons,rep_cps b m,replicate_succ,strOf_cons]
  show a++(bitS b).cps++_=a++((bitS b).cps++_)
  rw[Array.append_assoc]
theorem rep_bit (b:Bool)(m:Nat):repS (bitS b) (m:Int)=strOf (List.replicate m b):=by
 unfold repS
 split
 .rename_i h
  have:m=0:=by omega
  subst this
  exact strOf_nil.symm
 .split
  .rename_i h h2
   rw[bitS_len]at h2
   have:m=1:=by simp at h2;omega
   subst this
   show bitS b=strOf [b]
   rw[strOf_cons,strOf_nil]
   exact (Str.append_empty _).symm
  .rw [toNat_natCast,rep_cps]
   simp
def ns_Walk:List Str:=["plane","used","row_ends","walked","ahead"]
structure Pa where
 a:Int
 s:Int
 e:Int
 lo:Int
 hi:Int
def Pa.d (p:Pa):D:=.tup [.int p.a,.int p.s,.int p.e,.tup [.int p.lo,.int p.hi]]
structure Wk where
 pl:Int
 us:Int
 re:List Int
 wk:List Pa
 ah:List Pa
def Wk.ts (w:Wk):List OV:=[.fz (.int w.pl),.fz (.int w.us),.nl (w.re.map λi=>.fz (.int i)),.nl (w.wk.map λp=>.fz p.d),.nl (w.ah.map λp=>.fz p.d)]
def Wk.turn (w:Wk):Wk:=if w.pl-1>=0 then {w with pl:=w.pl-1,ah:=w.wk.reverse,wk:=[]} else {w with pl:=w.pl-1}
def Wk.wake (w:Wk)(p:Pa):Wk:=if p.e-p.s=1 then {w with ah:=w.ah++[⟨2,p.s,p.e,p.lo,p.hi⟩]} else {w with ah:=w.ah++[⟨0,(p.s+p.e) / 2,p.e,p.lo,p.hi⟩,⟨1,p.s,(p.s+p.e) / 2,p.lo,p.hi⟩]}
def Wk.fits (w:Wk):Prop:=w.re.length<900000/\w.wk.length<900000/\w.ah.length<900000
def sp_part_of_one:DSp:=λds P=>∃p:Pa,ds=[p.d]/\P (.fz (.bl (decide (p.e-p.s=1))))
def sp_calm_span:DSp:=λds P=>∃n:Nat,ds=[.int n]/\n<=5000/\P (.fz (.tup [.int (1-2^n),.int (2^n-1)]))
def sp_signed_span:DSp:=λds P=>∃(n:Nat) (b:Bool),ds=[.int n,.bl b]/\n<=5000/\P (.fz (if b then .tup [.int (1-2^n-2^n),.int (-2^n)] else .tup [.int (2^n),.int (2^n+2^n-1)]))
def sp_figured_span:DSp:=λds P=>∃(lo hi:Int) (n:Nat) (b:Bool),ds=[.tup [.int lo,.int hi],.int n,.bl b]/\n<=5000/\P (.fz (if b=decide (lo > 0) then .tup [.int (lo+2^n),.int hi] else .tup [.int lo,.int (hi-2^n)]))
def sp_Walk_turn:DMo:=λts ds P=>∃w:Wk,ts=w.ts/\w.wk.length<=1000000/\ds=[]/\P w.turn.ts
def sp_Walk___init__:DMo:=λts ds P=>∃(m:Int) (n:Nat),ts=[]/\ds=[.int m,.int n]/\n<=5000/\P (Wk.turn ⟨n,0,[],[⟨0,0,m,1-2^n,2^n-1⟩],[]⟩).ts
def sp_Walk_walk_awake:DMo:=λts ds P=>∃(w:Wk) (p:Pa) (lo hi:Int),ts=w.ts/\w.wk.length<1000000/\ds=[p.d,.tup [.int lo,.int hi]]/\P {w with wk:=w.wk++[⟨3,p.s,p.e,lo,hi⟩]:Wk}.ts
def sp_Walk_wake:DMo:=λts ds P=>∃(w:Wk) (p:Pa),ts=w.ts/\w.ah.length<900000/\ds=[p.d]/\P (w.wake p).ts
def sp_Walk_is_whole:DSp:=λds P=>∃w:Wk,ds=[.obj "Walk" ns_Walk (OV.vals w.ts)]/\P (.fz (.bl (decide (w.pl<0))))
def Wk.walked (w:Wk)(p:Pa):Wk:={w with wk:=w.wk++[p]}
def Wk.calm (w:Wk)(p:Pa):Wk:=if p.a=1 then {w.walked ⟨0,p.s,p.e,1-2^w.pl.toNat,2^w.pl.toNat-1⟩ with ah:=w.ah.dropLast:Wk}.wake (w.ah.getLastD p) else w.walked ⟨0,p.s,p.e,1-2^w.pl.toNat,2^w.pl.toNat-1⟩
def Pa.figured (p:Pa)(n:Nat)(b:Bool):Pa:=if b=decide (p.lo > 0) then ⟨3,p.s,p.e,p.lo+2^n,p.hi⟩ else ⟨3,p.s,p.e,p.lo,p.hi-2^n⟩
def Pa.signed (p:Pa)(n:Nat)(b:Bool):Pa:=if b then ⟨3,p.s,p.e,1-2^n-2^n,-2^n⟩ else ⟨3,p.s,p.e,2^n,2^n+2^n-1⟩
def Wk.step (w:Wk)(ah:List Pa)(p:Pa)(b:Bool):Wk:=
 if p.a=3 then {w with us:=w.us+1,ah:=ah,wk:=w.wk++[p.figured w.pl.toNat b]} else if p.a=2 then {w with us:=w.us+1,ah:=ah,wk:=w.wk++[p.signed w.pl.toNat b]}
 else if b then Wk.wake {w with us:=w.us+1,ah:=ah} p else Wk.calm {w with us:=w.us+1,ah:=ah} p
def Wk.rowEnd (w:Wk):Wk:=if w.ah=[] then Wk.turn {w with re:=w.re++[w.us]} else w
def sp_Walk_calm:DMo:=λts ds P=>∃(w:Wk) (p:Pa),ts=w.ts/\(w.wk.length<1000000/\w.ah.length<900000)/\ds=[p.d]/\0<=w.pl/\w.pl<=5000/\(p.a=1->w.ah≠[])/\P (w.calm p).ts
def sp_Walk_take:DMo:=λts ds P=>∃(w:Wk) (ah:List Pa) (p:Pa) (b:Bool),ts=w.ts/\w.fits/\ds=[.bl b]/\w.ah=ah++[p]/\0<=w.pl/\w.pl<=5000/\(p.a=1->b=false->ah≠[])/\P ((w.step ah p b).rowEnd).ts
theorem two_nat (n:Nat):(1:Int)*2^((n:Int).toNat)=2^n:=by rw[Int.one_mul,toNat_natCast]
theorem shl_ok {n:Nat}(h:n<=5000):0<=(n:Int)/\(n:Int)<=1000000/\Int.natAbs 1<2^64:=⟨by omega,by omega,by decide⟩
theorem pa_vals (ps:List Pa):(ps.map λp=>OV.fz p.d).map OV.val=ps.map Pa.d:=by rw[map_map];rfl
theorem pa_lfs (ps:List Pa):D.lfs (ps.map Pa.d)=true:=by
 rw[D.lfs_eq]
 simp[Pa.d,D.lf,D.lfs]
theorem pa_rev (ps:List Pa):List.map OV.fz (ps.map Pa.d).reverse=ps.reverse.map λp=>OV.fz p.d:=by rw[<- map_reverse,map_map];rfl
theorem pa_app (ps:List Pa)(p:Pa):(ps.map λp=>OV.fz p.d)++[OV.fz p.d]=(ps++[p]).map λp=>OV.fz p.d:=by simp
theorem pa_app5 (ps:List Pa)(a s e lo hi:Int):(ps.map λp=>OV.fz p.d)++[OV.fz (.tup [.int a,.int s,.int e,.tup [.int lo,.int hi]])]=(ps++[(⟨a,s,e,lo,hi⟩:Pa)]).map λ(p:Pa)=>OV.fz p.d:=pa_app ps ⟨a,s,e,lo,hi⟩
theorem pa_eta (p:Pa):p.d = .tup [.int p.a,.int p.s,.int p.e,.tup [.int p.lo,.int p.hi]]:=rfl
abbrev s_part_of_one:Stmt:=top 30
theorem sc_part_of_one:FnScope ["part"] ["part"] (defScope s_part_of_one):=by walk_at "S"
abbrev s_calm_span:Stmt:=top 31
theorem sc_calm_span:FnScope ["plane"] ["plane"] (defScope s_calm_span):=by walk_at "S"
abbrev s_signed_span:Stmt:=top 32
theorem sc_signed_span:FnScope ["plane","below","least"] ["plane","below"] (defScope s_signed_span):=by walk_at "S"
abbrev s_figured_span:Stmt:=top 33
theorem sc_figured_span:FnScope ["span","plane","figure"] ["span","plane","figure"] (defScope s_figured_span):=by walk_at "S"
abbrev s_Walk_turn:Stmt:=inClass (top 34) 1
theorem sc_Walk_turn:FnScope ["self"] ["self"] (defScope s_Walk_turn):=by walk_at "S"
abbrev s_Walk___init__:Stmt:=inClass (top 34) 0
theorem sc_Walk___init__:FnScope ["self","many","planes"] ["self","many","planes"] (defScope s_Walk___init__):=by walk_at "S"
abbrev s_Walk_walk_awake:Stmt:=inClass (top 34) 7
theorem sc_Walk_walk_awake:FnScope ["self","part","span"] ["self","part","span"] (defScope s_Walk_walk_awake):=by walk_at "S"
abbrev s_Walk_wake:Stmt:=inClass (top 34) 8
theorem sc_Walk_wake:FnScope ["self","part","middle"] ["self","part"] (defScope s_Walk_wake):=by walk_at "S"
abbrev s_Walk_is_whole:Stmt:=inClass (top 34) 2
theorem sc_Walk_is_whole:FnScope ["self"] ["self"] (defScope s_Walk_is_whole):=by walk_at "S"
abbrev s_Walk_calm:Stmt:=inClass (top 34) 9
theorem sc_Walk_calm:FnScope ["self","part"] ["self","part"] (defScope s_Walk_calm):=by walk_at "S"
abbrev s_Walk_take:Stmt:=inClass (top 34) 6
theorem sc_Walk_take:FnScope ["self","told","part"] ["self","told"] (defScope s_Walk_take):=by walk_at "S"
theorem ok_part_of_one {f:Addr}{fd:FuncData}(Df:DefAt K mg "part_of_one" s_part_of_one f fd)(B:BltV mg)(KV:KitV K)(CV_Walk:ClsV K "Walk" ns_Walk)(CV_Reader:ClsV K "Reader" ns_Reader)(g_END:∃t,mg "END"=some (.int 2 t))(g_START:∃t,mg "START"=some (.int 1 t)):
  Cal P w K mg base "part_of_one" 1 ["part"] (spV K 1 sp_part_of_one):=by
 refine CalV.of Df sc_part_of_one (by walk_at "b") rfl (λc A o s H E hr=>⟨_,_,(pss_one (ps_ret (pe_cmpR op_eq (pe_op op_sub (pe_ix ix_tup (pv 0) (pe_globI (by rfl) g_END) (λ_ _=>rfl)) (pe_ix ix_tup (pv 0) (pe_globI (by rfl) g_START) (λ_ _=>rfl))) pe_int (nomark _)))),
  (sS_ret (sO_f (sF_op oS_eq (sB_f (sF_op oS_i0 (sB_op (OpF.b oF_ixT) sB_var (sB_f sF_int)) (sB_op (OpF.b oF_ixT) sB_var (sB_f sF_int)))) (sB_f sF_int)))),?_⟩)
 rintro ds Pr ⟨p,rfl,h⟩
 unfold Pa.d
 fin2
 exact h
theorem ok_calm_span {f:Addr}{fd:FuncData}(Df:DefAt K mg "calm_span" s_calm_span f fd)(B:BltV mg)(KV:KitV K)(CV_Walk:ClsV K "Walk" ns_Walk)(CV_Reader:ClsV K "Reader" ns_Reader):
  Cal P w K mg base "calm_span" 1 ["plane"] (spV K 1 sp_calm_span):=by
 refine CalV.of Df sc_calm_span (by walk_at "b") rfl (λc A o s H E hr=>⟨_,_,(pss_one (ps_ret (pe_tupS (pa_cons (pe_op op_sub pe_int (pe_op op_shl pe_int (pv 0))) (pa_cons (pe_op op_sub (pe_op op_shl pe_int (pv 0)) pe_int) pa_nil))))),
  (sS_ret (sO_f (sF_tup (sAF_cons (sF_op oS_i0 (sB_f sF_int) (sB_f (sF_op oS_i (sB_f sF_int) sB_var))) (sAF_cons (sF_op oS_i0 (sB_f (sF_op oS_i (sB_f sF_int) sB_var)) (sB_f sF_int)) sAF_nil))))),?_⟩)
 rintro ds Pr ⟨n,rfl,hn,h⟩
 fin2
 refine⟨shl_ok hn,shl_ok hn,?_⟩
 rw[two_nat]
 exact h
theorem ok_signed_span {f:Addr}{fd:FuncData}(Df:DefAt K mg "signed_span" s_signed_span f fd)(B:BltV mg)(KV:KitV K)(CV_Walk:ClsV K "Walk" ns_Walk)(CV_Reader:ClsV K "Reader" ns_Reader):
  Cal P w K mg base "signed_span" 1 ["plane","below"] (spV K 2 sp_signed_span):=by
 refine CalV.of Df sc_signed_span (by walk_at "b") rfl (λc A o s H E hr=>⟨_,_,(pss_cons (ps_set (i:=2) sc_signed_span.nd rfl (Or.inl rfl) (pe_op op_shl pe_int (pv 0)))
   (pss_cons (ps_if (pt_val (pv 1)) (pss_one (ps_ret (pe_tupS (pa_cons (pe_op op_sub (pe_op op_sub pe_int (pv 2)) (pv 2)) (pa_cons (pe_un un_neg (pv 2)) pa_nil))))) pss_nil)
   (pss_one (ps_ret (pe_tupS (pa_cons (pv 2) (pa_cons (pe_op op_sub (pe_op op_add (pv 2) (pv 2)) pe_int) pa_nil))))))),
  (sS_seq (sS_set (sO_f (sF_op oS_i (sB_f sF_int) sB_var)))
   (sS_seq (sS_if (sT_b sF_var) (sS_ret (sO_f (sF_tup (sAF_cons (sF_op oS_i0 (sB_f (sF_op oS_i0 (sB_f sF_int) sB_var)) sB_var) (sAF_cons (sF_neg sB_var) sAF_nil))))) sS_next)
   (sS_ret (sO_f (sF_tup (sAF_cons sF_var (sAF_cons (sF_op oS_i0 (sB_f (sF_op oS_i0 sB_var sB_var)) (sB_f sF_int)) sAF_nil))))))),?_⟩)
 rintro ds Pr ⟨n,b,rfl,hn,h⟩
 fin2
 refine⟨shl_ok hn,?_⟩
 rw[two_nat]
 cases b with
 |true=>rw[if_pos rfl]at h ⊢;exact h
 |false=>rw[if_neg (by decide)]at h ⊢;exact h
theorem ok_figured_span {f:Addr}{fd:FuncData}(Df:DefAt K mg "figured_span" s_figured_span f fd)(B:BltV mg)(KV:KitV K)(CV_Walk:ClsV K "Walk" ns_Walk)(CV_Reader:ClsV K "Reader" ns_Reader):
  Cal P w K mg base "figured_span" 1 ["span","plane","figure"] (spV K 3 sp_figured_span):=by
 refine CalV.of Df sc_figured_span (by walk_at "b") rfl (λc A o s H E hr=>⟨_,_,(pss_cons (ps_if (pt_cmpR op_eq (pv 2) (pe_cmpR op_gt (pe_ix ix_tup (pv 0) pe_int (λ_ _=>rfl)) pe_int (nomark _)) (nomark _)) (pss_one (ps_ret (pe_tupS (pa_cons (pe_op op_add (pe_ix ix_tup (pv 0) pe_int (λ_ _=>rfl)) (pe_op op_shl pe_int (pv 1))) (pa_cons (pe_ix ix_tup (pv 0) pe_int (λ_ _=>rfl)) pa_nil))))) pss_nil)
   (pss_one (ps_ret (pe_tupS (pa_cons (pe_ix ix_tup (pv 0) pe_int (λ_ _=>rfl)) (pa_cons (pe_op op_sub (pe_ix ix_tup (pv 0) pe_int (λ_ _=>rfl)) (pe_op op_shl pe_int (pv 1))) pa_nil)))))),
  (sS_seq (sS_if (sT_test (sF_op oS_eq sB_var (sB_f (sF_op oS_b0 (sB_op (OpF.b oF_ixT) sB_var (sB_f sF_int)) (sB_f sF_int))))) (sS_ret (sO_f (sF_tup (sAF_cons (sF_op oS_i0 (sB_op (OpF.b oF_ixT) sB_var (sB_f sF_int)) (sB_f (sF_op oS_i (sB_f sF_int) sB_var))) (sAF_cons (sF_opF oF_ixT sF_var sF_int) sAF_nil))))) sS_next)
   (sS_ret (sO_f (sF_tup (sAF_cons (sF_opF oF_ixT sF_var sF_int) (sAF_cons (sF_op oS_i0 (sB_op (OpF.b oF_ixT) sB_var (sB_f sF_int)) (sB_f (sF_op oS_i (sB_f sF_int) sB_var))) sAF_nil)))))),?_⟩)
 rintro ds Pr ⟨lo,hi,n,b,rfl,hn,h⟩
 fin2
 rw[two_nat]
 split at h
 .rename_i c;rw[if_pos c];exact⟨shl_ok hn,h⟩
 .rename_i c;rw[if_neg c];exact⟨shl_ok hn,h⟩
theorem ok_Walk_turn {f:Addr}{fd:FuncData}(Df:MetAt K "Walk" "turn" "Walk.turn" s_Walk_turn f fd)(B:BltV mg)(KV:KitV K)(CV_Walk:ClsV K "Walk" ns_Walk)(CV_Reader:ClsV K "Reader" ns_Reader):
  CalM P w K mg base "Walk" "turn" 1 ["self"] (spM K 1 "Walk" ns_Walk sp_Walk_turn):=by
 refine CalM.of Df sc_Walk_turn (by walk_at "b") rfl (λc A o s H E hr=>⟨_,_,(pss_cons (ps_fldaug (pv 0) pe_int in_sub)
   (pss_one (ps_if (pt_cmpR op_ge (pe_fld (pv 0) rfl) pe_int (nomark _)) (pss_cons (ps_fld (pv 0) (pe_listRev rfl B.list rfl B.reversed (pa_cons (pe_fld (pv 0) rfl) pa_nil)) rfl)
   (pss_one (ps_fld (pv 0) (pe_lstS pa_nil) rfl))) pss_nil))),
  (sS_seq (sS_faug (j:=0) (g:=λx y=>x-y) CV_Walk (by rfl) (λx y H Q q=>⟨_,_,rfl,rfl,q⟩) (sB_f sF_int))
   (sS_if (sT_test (sF_op oS_b0 (sB_fld (j:=0) CV_Walk (by rfl) sB_var) (sB_f sF_int))) (sS_seq (sS_fset (j:=4) CV_Walk (by rfl) (sO_listRev (sAB_cons (sB_fld (j:=3) CV_Walk (by rfl) sB_var) sAB_nil)))
   (sS_fset (j:=3) CV_Walk (by rfl) (sO_lst sAO_nil))) sS_next)),?_⟩)
 rintro a ts ds Pr ⟨w,rfl,hf,rfl,h⟩
 unfold Wk.ts
 fin2
 rw[pa_vals,pa_rev]
 unfold Wk.turn at h
 split at h
 .rename_i c
  rw[if_pos c]
  exact⟨by decide,pa_lfs _,hf,by decide,h⟩
 .rename_i c
  rw[if_neg c]
  exact h
theorem ok_Walk___init__ {f:Addr}{fd:FuncData}(Df:Fun K "__init__" "Walk.__init__" s_Walk___init__ f fd)(Mf:MakAt K mg "Walk" f)(B:BltV mg)(KV:KitV K)(CV_Walk:ClsV K "Walk" ns_Walk)(CV_Reader:ClsV K "Reader" ns_Reader)(g_WAKING:∃t,mg "WAKING"=some (.int 0 t))(c_calm_span:Cal P w K mg base "calm_span" 1 ["plane"] (spV K 1 sp_calm_span))(c_Walk_turn:CalM P w K mg base "Walk" "turn" 1 ["self"] (spM K 1 "Walk" ns_Walk sp_Walk_turn)):
  CalK P w K mg base "Walk" 2 ["self","many","planes"] (spM K 3 "Walk" ns_Walk sp_Walk___init__):=by
 refine CalK.of Df Mf sc_Walk___init__ (by walk_at "b") rfl (λc A o s H E hr=>⟨_,_,(pss_cons (ps_fld (pv 0) (pv 2) rfl)
   (pss_cons (ps_fld (pv 0) pe_int rfl)
   (pss_cons (ps_fld (pv 0) (pe_lstS pa_nil) rfl)
   (pss_cons (ps_fld (pv 0) (pe_lstS (pa_cons (pe_tupS (pa_cons (pe_globI (by rfl) g_WAKING) (pa_cons pe_int (pa_cons (pv 1) (pa_cons (pe_cal c_calm_span (hr.mono (by decide)) (by rfl) (pa_cons (pv 2) pa_nil)) pa_nil))))) pa_nil)) rfl)
   (pss_cons (ps_fld (pv 0) (pe_lstS pa_nil) rfl)
   (pss_one (ps_expr (pe_metN0 c_Walk_turn (hr.mono (by decide)) (pv 0))))))))),
  (sS_seq (sS_fnew (j:=0) CV_Walk (by rfl) (sO_f sF_var))
   (sS_seq (sS_fnew (j:=1) CV_Walk (by rfl) (sO_f sF_int))
   (sS_seq (sS_fnew (j:=2) CV_Walk (by rfl) (sO_lst sAO_nil))
   (sS_seq (sS_fnew (j:=3) CV_Walk (by rfl) (sO_lst (sAO_cons (sO_f (sF_tup (sAF_cons sF_int (sAF_cons sF_int (sAF_cons sF_var (sAF_cons (sF_o (sO_call (sAF_cons sF_var sAF_nil))) sAF_nil)))))) sAO_nil)))
   (sS_seq (sS_fnew (j:=4) CV_Walk (by rfl) (sO_lst sAO_nil))
   (sS_meth CV_Walk (by decide +kernel) sAF_nil)))))),?_⟩)
 rintro a ts ds Pr ⟨m,n,rfl,rfl,hn,h⟩
 fin2
 refine⟨n,rfl,hn,?_⟩
 fin2
 refine⟨⟨n,0,[],[⟨0,0,m,1-2^n,2^n-1⟩],[]⟩,rfl,(by show 1<=1000000;decide),rfl,?_⟩
 exact h
theorem ok_Walk_walk_awake {f:Addr}{fd:FuncData}(Df:MetAt K "Walk" "walk_awake" "Walk.walk_awake" s_Walk_walk_awake f fd)(B:BltV mg)(KV:KitV K)(CV_Walk:ClsV K "Walk" ns_Walk)(CV_Reader:ClsV K "Reader" ns_Reader)(g_FIGURE:∃t,mg "FIGURE"=some (.int 3 t))(g_START:∃t,mg "START"=some (.int 1 t))(g_END:∃t,mg "END"=some (.int 2 t)):
  CalM P w K mg base "Walk" "walk_awake" 1 ["self","part","span"] (spM K 3 "Walk" ns_Walk sp_Walk_walk_awake):=by
 refine CalM.of Df sc_Walk_walk_awake (by walk_at "b") rfl (λc A o s H E hr=>⟨_,_,(pss_one (ps_expr (pe_bm plainAttrs_list PySem.F.slot_list_append PySem.F.type_list_append mt_append (pe_fld (pv 0) rfl) (pa_cons (pe_tupS (pa_cons (pe_globI (by rfl) g_FIGURE) (pa_cons (pe_ix ix_tup (pv 1) (pe_globI (by rfl) g_START) (λ_ _=>rfl)) (pa_cons (pe_ix ix_tup (pv 1) (pe_globI (by rfl) g_END) (λ_ _=>rfl)) (pa_cons (pv 2) pa_nil))))) pa_nil)))),
  (sS_fapp (j:=3) CV_Walk (by rfl) (sO_f (sF_tup (sAF_cons sF_int (sAF_cons (sF_opF oF_ixT sF_var sF_int) (sAF_cons (sF_opF oF_ixT sF_var sF_int) (sAF_cons sF_var sAF_nil))))))),?_⟩)
 rintro a ts ds Pr ⟨w,p,lo,hi,rfl,hf,rfl,h⟩
 rw[pa_eta]
 unfold Wk.ts
 fin2
 rw[pa_app5]
 exact⟨hf,h⟩
theorem ok_Walk_wake {f:Addr}{fd:FuncData}(Df:MetAt K "Walk" "wake" "Walk.wake" s_Walk_wake f fd)(B:BltV mg)(KV:KitV K)(CV_Walk:ClsV K "Walk" ns_Walk)(CV_Reader:ClsV K "Reader" ns_Reader)(g_SIGN:∃t,mg "SIGN"=some (.int 2 t))(g_WAKING:∃t,mg "WAKING"=some (.int 0 t))(g_WAKING_FIRST:∃t,mg "WAKING_FIRST"=some (.int 1 t))(g_START:∃t,mg "START"=some (.int 1 t))(g_END:∃t,mg "END"=some (.int 2 t))(g_SPAN:∃t,mg "SPAN"=some (.int 3 t))(c_part_of_one:Cal P w K mg base "part_of_one" 1 ["part"] (spV K 1 sp_part_of_one)):
  CalM P w K mg base "Walk" "wake" 2 ["self","part"] (spM K 2 "Walk" ns_Walk sp_Walk_wake):=by
 refine CalM.of Df sc_Walk_wake (by walk_at "b") rfl (λc A o s H E hr=>⟨_,_,(pss_one (ps_if (pt_val (pe_cal c_part_of_one (hr.mono (by decide)) (by rfl) (pa_cons (pv 1) pa_nil))) (pss_one (ps_expr (pe_bm plainAttrs_list PySem.F.slot_list_append PySem.F.type_list_append mt_append (pe_fld (pv 0) rfl) (pa_cons (pe_tupS (pa_cons (pe_globI (by rfl) g_SIGN) (pa_cons (pe_ix ix_tup (pv 1) (pe_globI (by rfl) g_START) (λ_ _=>rfl)) (pa_cons (pe_ix ix_tup (pv 1) (pe_globI (by rfl) g_END) (λ_ _=>rfl)) (pa_cons (pe_ix ix_tup (pv 1) (pe_globI (by rfl) g_SPAN) (λ_ _=>rfl)) pa_nil))))) pa_nil)))) (pss_cons (ps_set (i:=2) sc_Walk_wake.nd rfl (Or.inl rfl) (pe_op op_fdiv (pe_op op_add (pe_ix ix_tup (pv 1) (pe_globI (by rfl) g_START) (λ_ _=>rfl)) (pe_ix ix_tup (pv 1) (pe_globI (by rfl) g_END) (λ_ _=>rfl))) pe_int))
   (pss_cons (ps_expr (pe_bm plainAttrs_list PySem.F.slot_list_append PySem.F.type_list_append mt_append (pe_fld (pv 0) rfl) (pa_cons (pe_tupS (pa_cons (pe_globI (by rfl) g_WAKING) (pa_cons (pv 2) (pa_cons (pe_ix ix_tup (pv 1) (pe_globI (by rfl) g_END) (λ_ _=>rfl)) (pa_cons (pe_ix ix_tup (pv 1) (pe_globI (by rfl) g_SPAN) (λ_ _=>rfl)) pa_nil))))) pa_nil)))
   (pss_one (ps_expr (pe_bm plainAttrs_list PySem.F.slot_list_append PySem.F.type_list_append mt_append (pe_fld (pv 0) rfl) (pa_cons (pe_tupS (pa_cons (pe_globI (by rfl) g_WAKING_FIRST) (pa_cons (pe_ix ix_tup (pv 1) (pe_globI (by rfl) g_START) (λ_ _=>rfl)) (pa_cons (pv 2) (pa_cons (pe_ix ix_tup (pv 1) (pe_globI (by rfl) g_SPAN) (λ_ _=>rfl)) pa_nil))))) pa_nil)))))))),
  (sS_if (sT_b (sF_o (sO_call (sAF_cons sF_var sAF_nil)))) (sS_fapp (j:=4) CV_Walk (by rfl) (sO_f (sF_tup (sAF_cons sF_int (sAF_cons (sF_opF oF_ixT sF_var sF_int) (sAF_cons (sF_opF oF_ixT sF_var sF_int) (sAF_cons (sF_opF oF_ixT sF_var sF_int) sAF_nil))))))) (sS_seq (sS_set (sO_f (sF_op oS_i (sB_f (sF_op oS_i0 (sB_op (OpF.b oF_ixT) sB_var (sB_f sF_int)) (sB_op (OpF.b oF_ixT) sB_var (sB_f sF_int)))) (sB_f sF_int))))
   (sS_seq (sS_fapp (j:=4) CV_Walk (by rfl) (sO_f (sF_tup (sAF_cons sF_int (sAF_cons sF_var (sAF_cons (sF_opF oF_ixT sF_var sF_int) (sAF_cons (sF_opF oF_ixT sF_var sF_int) sAF_nil)))))))
   (sS_fapp (j:=4) CV_Walk (by rfl) (sO_f (sF_tup (sAF_cons sF_int (sAF_cons (sF_opF oF_ixT sF_var sF_int) (sAF_cons sF_var (sAF_cons (sF_opF oF_ixT sF_var sF_int) sAF_nil)))))))))),?_⟩)
 rintro a ts ds Pr ⟨w,p,rfl,hf,rfl,h⟩
 rw[pa_eta]
 unfold Wk.ts
 fin2
 refine⟨p,rfl,?_⟩
 have hl:=hf
 unfold Wk.wake at h
 fin2
 split at h
 .rename_i c
  rw[if_pos c,pa_app5]
  exact⟨by omega,h⟩
 .rename_i c
  rw[if_neg c,pa_app5,pa_app5]
  refine⟨by omega,by simp;omega,?_⟩
  rw[append_assoc]
  exact h
theorem ok_Walk_is_whole {f:Addr}{fd:FuncData}(Df:MetAt K "Walk" "is_whole" "Walk.is_whole" s_Walk_is_whole f fd)(B:BltV mg)(KV:KitV K)(CV_Walk:ClsV K "Walk" ns_Walk)(CV_Reader:ClsV K "Reader" ns_Reader):
  CalM P w K mg base "Walk" "is_whole" 1 ["self"] (spV K 1 sp_Walk_is_whole):=by
 refine CalP.of Df sc_Walk_is_whole (by walk_at "b") rfl (λc A o s H E hr=>⟨_,_,(pss_one (ps_ret (pe_cmpR op_lt (pe_fld (pv 0) rfl) pe_int (nomark _)))),
  (sS_ret (sO_f (sF_op oS_b0 (sB_fld (j:=0) CV_Walk (by rfl) sB_var) (sB_f sF_int)))),?_⟩)
 rintro ds Pr ⟨w,rfl,h⟩
 unfold Wk.ts
 fin2
 exact h
theorem ok_Walk_calm {f:Addr}{fd:FuncData}(Df:MetAt K "Walk" "calm" "Walk.calm" s_Walk_calm f fd)(B:BltV mg)(KV:KitV K)(CV_Walk:ClsV K "Walk" ns_Walk)(CV_Reader:ClsV K "Reader" ns_Reader)(g_WAKING_FIRST:∃t,mg "WAKING_FIRST"=some (.int 1 t))(g_WAKING:∃t,mg "WAKING"=some (.int 0 t))(g_ASKS:∃t,mg "ASKS"=some (.int 0 t))(g_START:∃t,mg "START"=some (.int 1 t))(g_END:∃t,mg "END"=some (.int 2 t))(c_calm_span:Cal P w K mg base "calm_span" 1 ["plane"] (spV K 1 sp_calm_span))(c_Walk_wake:CalM P w K mg base "Walk" "wake" 2 ["self","part"] (spM K 2 "Walk" ns_Walk sp_Walk_wake)):
  CalM P w K mg base "Walk" "calm" 3 ["self","part"] (spM K 2 "Walk" ns_Walk sp_Walk_calm):=by
 refine CalM.of Df sc_Walk_calm (by walk_at "b") rfl (λc A o s H E hr=>⟨_,_,(pss_cons (ps_expr (pe_bm plainAttrs_list PySem.F.slot_list_append PySem.F.type_list_append mt_append (pe_fld (pv 0) rfl) (pa_cons (pe_tupS (pa_cons (pe_globI (by rfl) g_WAKING) (pa_cons (pe_ix ix_tup (pv 1) (pe_globI (by rfl) g_START) (λ_ _=>rfl)) (pa_cons (pe_ix ix_tup (pv 1) (pe_globI (by rfl) g_END) (λ_ _=>rfl)) (pa_cons (pe_cal c_calm_span (hr.mono (by decide)) (by rfl) (pa_cons (pe_fld (pv 0) rfl) pa_nil)) pa_nil))))) pa_nil)))
   (pss_one (ps_if (pt_cmpR op_eq (pe_ix ix_tup (pv 1) (pe_globI (by rfl) g_ASKS) (λ_ _=>rfl)) (pe_globI (by rfl) g_WAKING_FIRST) (nomark _)) (pss_one (ps_expr (pe_metN c_Walk_wake (hr.mono (by decide)) (pv 0) (pa_cons (pe_bm0 plainAttrs_list PySem.F.slot_list_pop PySem.F.type_list_pop mt_pop (pe_fld (pv 0) rfl)) pa_nil)))) pss_nil))),
  (sS_seq (sS_fapp (j:=3) CV_Walk (by rfl) (sO_f (sF_tup (sAF_cons sF_int (sAF_cons (sF_opF oF_ixT sF_var sF_int) (sAF_cons (sF_opF oF_ixT sF_var sF_int) (sAF_cons (sF_o (sO_callB (sAB_cons (sB_fld (j:=0) CV_Walk (by rfl) sB_var) sAB_nil))) sAF_nil)))))))
   (sS_if (sT_test (sF_op oS_eq (sB_op (OpF.b oF_ixT) sB_var (sB_f sF_int)) (sB_f sF_int))) (sS_methPop (j:=4) CV_Walk (by rfl) (by decide +kernel)) sS_next)),?_⟩)
 rintro a ts ds Pr ⟨w,p,rfl,hf,rfl,h1,h2,hne,h⟩
 rw[pa_eta]
 unfold Wk.ts
 fin2
 refine⟨hf.1,w.pl.toNat,by rw[toNat_of_nonneg h1],by omega,?_⟩
 fin2
 rw[pa_app5]
 unfold Wk.calm at h
 split at h
 .rename_i c
  rw[if_pos c]
  obtain⟨ah,q,e⟩:∃ah q,w.ah=ah++[q]:=⟨_,_,(List.dropLast_concat_getLast (hne c)).symm⟩
  rw[e]at h ⊢
  rw[dropLast_concat,getLastD_concat]at h
  unfold sMethPop
  fin2
  refine⟨ah.map λp=>OV.fz p.d,q.d,by rw[map_append];rfl,?_⟩
  refine⟨{w.walked ⟨0,p.s,p.e,1-2^w.pl.toNat,2^w.pl.toNat-1⟩ with ah:=ah},q,rfl,?_,rfl,h⟩
  have:=hf.2
  rw[e,length_append]at this
  show ah.length<900000
  omega
 .rename_i c
  rw[if_neg c]
  exact h
theorem ok_Walk_take {f:Addr}{fd:FuncData}(Df:MetAt K "Walk" "take" "Walk.take" s_Walk_take f fd)(B:BltV mg)(KV:KitV K)(CV_Walk:ClsV K "Walk" ns_Walk)(CV_Reader:ClsV K "Reader" ns_Reader)(g_FIGURE:∃t,mg "FIGURE"=some (.int 3 t))(g_ASKS:∃t,mg "ASKS"=some (.int 0 t))(g_SIGN:∃t,mg "SIGN"=some (.int 2 t))(g_SPAN:∃t,mg "SPAN"=some (.int 3 t))(c_Walk_walk_awake:CalM P w K mg base "Walk" "walk_awake" 1 ["self","part","span"] (spM K 3 "Walk" ns_Walk sp_Walk_walk_awake))(c_figured_span:Cal P w K mg base "figured_span" 1 ["span","plane","figure"] (spV K 3 sp_figured_span))(c_signed_span:Cal P w K mg base "signed_span" 1 ["plane","below"] (spV K 2 sp_signed_span))(c_Walk_wake:CalM P w K mg base "Walk" "wake" 2 ["self","part"] (spM K 2 "Walk" ns_Walk sp_Walk_wake))(c_Walk_calm:CalM P w K mg base "Walk" "calm" 3 ["self","part"] (spM K 2 "Walk" ns_Walk sp_Walk_calm))(c_Walk_turn:CalM P w K mg base "Walk" "turn" 1 ["self"] (spM K 1 "Walk" ns_Walk sp_Walk_turn)):
  CalM P w K mg base "Walk" "take" 4 ["self","told"] (spM K 2 "Walk" ns_Walk sp_Walk_take):=by
 refine CalM.of Df sc_Walk_take (by walk_at "b") rfl (λc A o s H E hr=>⟨_,_,(pss_cons (ps_set (i:=2) sc_Walk_take.nd rfl (Or.inl rfl) (pe_bm0 plainAttrs_list PySem.F.slot_list_pop PySem.F.type_list_pop mt_pop (pe_fld (pv 0) rfl)))
   (pss_cons (ps_fldaug (pv 0) pe_int in_add)
   (pss_cons (ps_if (pt_cmpR op_eq (pe_ix ix_tup (pv 2) (pe_globI (by rfl) g_ASKS) (λ_ _=>rfl)) (pe_globI (by rfl) g_FIGURE) (nomark _)) (pss_one (ps_expr (pe_metN c_Walk_walk_awake (hr.mono (by decide)) (pv 0) (pa_cons (pv 2) (pa_cons (pe_cal c_figured_span (hr.mono (by decide)) (by rfl) (pa_cons (pe_ix ix_tup (pv 2) (pe_globI (by rfl) g_SPAN) (λ_ _=>rfl)) (pa_cons (pe_fld (pv 0) rfl) (pa_cons (pv 1) pa_nil)))) pa_nil))))) (pss_one (ps_if (pt_cmpR op_eq (pe_ix ix_tup (pv 2) (pe_globI (by rfl) g_ASKS) (λ_ _=>rfl)) (pe_globI (by rfl) g_SIGN) (nomark _)) (pss_one (ps_expr (pe_metN c_Walk_walk_awake (hr.mono (by decide)) (pv 0) (pa_cons (pv 2) (pa_cons (pe_cal c_signed_span (hr.mono (by decide)) (by rfl) (pa_cons (pe_fld (pv 0) rfl) (pa_cons (pv 1) pa_nil))) pa_nil))))) (pss_one (ps_if (pt_val (pv 1)) (pss_one (ps_expr (pe_metN c_Walk_wake (hr.mono (by decide)) (pv 0) (pa_cons (pv 2) pa_nil)))) (pss_one (ps_expr (pe_metN c_Walk_calm (hr.mono (by decide)) (pv 0) (pa_cons (pv 2) pa_nil)))))))))
   (pss_one (ps_if (pt_not (pt_truth (pe_fld (pv 0) rfl) (λ_=>rfl))) (pss_cons (ps_expr (pe_bm plainAttrs_list PySem.F.slot_list_append PySem.F.type_list_append mt_append (pe_fld (pv 0) rfl) (pa_cons (pe_fld (pv 0) rfl) pa_nil)))
   (pss_one (ps_expr (pe_metN0 c_Walk_turn (hr.mono (by decide)) (pv 0))))) pss_nil))))),
  (sS_seq (sS_fpop (j:=4) CV_Walk (by rfl))
   (sS_seq (sS_faug (j:=1) (g:=λx y=>x+y) CV_Walk (by rfl) (λx y H Q q=>⟨_,_,rfl,rfl,q⟩) (sB_f sF_int))
   (sS_seq (sS_if (sT_test (sF_op oS_eq (sB_op (OpF.b oF_ixT) sB_var (sB_f sF_int)) (sB_f sF_int))) (sS_meth CV_Walk (by decide +kernel) (sAF_cons sF_var (sAF_cons (sF_o (sO_callB (sAB_cons (sB_op (OpF.b oF_ixT) sB_var (sB_f sF_int)) (sAB_cons (sB_fld (j:=0) CV_Walk (by rfl) sB_var) (sAB_cons sB_var sAB_nil))))) sAF_nil))) (sS_if (sT_test (sF_op oS_eq (sB_op (OpF.b oF_ixT) sB_var (sB_f sF_int)) (sB_f sF_int))) (sS_meth CV_Walk (by decide +kernel) (sAF_cons sF_var (sAF_cons (sF_o (sO_callB (sAB_cons (sB_fld (j:=0) CV_Walk (by rfl) sB_var) (sAB_cons sB_var sAB_nil)))) sAF_nil))) (sS_if (sT_b sF_var) (sS_meth CV_Walk (by decide +kernel) (sAF_cons sF_var sAF_nil)) (sS_meth CV_Walk (by decide +kernel) (sAF_cons sF_var sAF_nil)))))
   (sS_if (sT_not (sT_truth (sB_fld (j:=4) CV_Walk (by rfl) sB_var))) (sS_seq (sS_fapp (j:=2) CV_Walk (by rfl) (sO_f (sF_lf (sB_fld (j:=1) CV_Walk (by rfl) sB_var))))
   (sS_meth CV_Walk (by decide +kernel) sAF_nil)) sS_next)))),?_⟩)
 rintro a ts ds Pr ⟨w,ah,p,b,rfl,hf,rfl,e,h1,h2,hne,h⟩
 unfold Wk.ts
 gn_on
 unfold sFPop
 fin2
 refine⟨ah.map λp=>OV.fz p.d,p.d,by rw[e,map_append];rfl,?_⟩
 gp_on
 gn_on
 gp_on
 gn_on
 rw[pa_eta]
 fin2
 have hah:ah.length<900000:=by
  have:=hf.2.2
  rw[e,length_append]at this
  omega
 have hwk:w.wk.length<900000:=hf.2.1
 have hre:w.re.length<900000:=hf.1
 have ep:((w.pl.toNat:Nat):Int)=w.pl:=toNat_of_nonneg h1
 have hsl:(w.step ah p b).wk.length<=w.wk.length+1/\(w.step ah p b).re=w.re:=by
  unfold Wk.step Wk.calm Wk.wake Wk.walked
  repeat (any_goals split)
  all_goals simp
 have fin:N [some (Sl.own (OV.ob (some a) (Str.ofString "Walk") ns_Walk (w.step ah p b).ts)),some (Sl.own (OV.fz (D.bl b))),some (Sl.own (OV.fz (D.tup [D.int p.a,D.int p.s,D.int p.e,D.tup [D.int p.lo,D.int p.hi]])))]:=by
  gp_on
  generalize w.step ah p b=v at h hsl ⊢
  unfold Wk.ts
  fin2
  unfold Wk.rowEnd at h
  split at h
  .rename_i c
   rw[if_pos (by rw[c];rfl)]
   exact⟨by rw[hsl.2];omega,{v with re:=v.re++[v.us]},rfl,by show v.wk.length<=1000000;omega,rfl,h⟩
  .rename_i c
   rw[if_neg (by simpa using c)]
   exact h
 unfold Wk.step at fin
 split
 .rename_i c
  rw[if_pos c]at fin
  refine⟨p.lo,p.hi,w.pl.toNat,b,by rw[ep],by omega,?_⟩
  unfold Pa.figured at fin
  by_cases hb:b=decide (p.lo > 0)
  .simp only[if_pos hb]at fin ⊢
   exact⟨rfl,{w with us:=w.us+1,ah:=ah},p,_,_,rfl,by show w.wk.length<1000000;omega,rfl,fin⟩
  .simp only[if_neg hb]at fin ⊢
   exact⟨rfl,{w with us:=w.us+1,ah:=ah},p,_,_,rfl,by show w.wk.length<1000000;omega,rfl,fin⟩
 .rename_i c
  rw[if_neg c]at fin
  split
  .rename_i c2
   rw[if_pos c2]at fin
   refine⟨w.pl.toNat,b,by rw[ep],by omega,?_⟩
   unfold Pa.signed at fin
   by_cases hb:b=true
   .simp only[if_pos hb]at fin ⊢
    exact⟨rfl,{w with us:=w.us+1,ah:=ah},p,_,_,rfl,by show w.wk.length<1000000;omega,rfl,fin⟩
   .simp only[if_neg hb]at fin ⊢
    exact⟨rfl,{w with us:=w.us+1,ah:=ah},p,_,_,rfl,by show w.wk.length<1000000;omega,rfl,fin⟩
  .rename_i c2
   rw[if_neg c2]at fin
   split
   .rename_i c3
    rw[if_pos c3]at fin
    exact⟨{w with us:=w.us+1,ah:=ah},p,rfl,hah,rfl,fin⟩
   .rename_i c3
    rw[if_neg c3]at fin
    exact⟨{w with us:=w.us+1,ah:=ah},p,rfl,⟨by show w.wk.length<1000000;omega,hah⟩,rfl,h1,h2,λz=>hne z (by simpa using c3),fin⟩
def ansB (xs:List Int)(n:Int)(p:Pa):Bool:=
 if p.a=3 then decide ((xs.getD p.s.toNat 0).natAbs / 2^n.toNat%2=1) else if p.a=2 then decide (xs.getD p.s.toNat 0<0)
 else ((xs.drop p.s.toNat).take (p.e.toNat-p.s.toNat)).any λx=>decide (n<(ibN x:Int))
def PaOk (xs:List Int)(p:Pa):Prop:=0<=p.s/\p.s<p.e/\p.e<=(xs.length:Int)
theorem cut_nat {xs:List D}{i j:Int}(h0:0<=i)(h1:i<=j)(h2:j<=(xs.length:Int)):L2.cutD xs (some i) (some j)=(xs.drop i.toNat).take (j.toNat-i.toNat):=by
 unfold L2.cutD
 have e1:HT.sIx xs.length 0 (some i)=i.toNat:=by
  have:=HT.sIx_nat xs.length 0 i.toNat
  rw[toNat_of_nonneg h0]at this
  rw[this];omega
 have e2:HT.sIx xs.length xs.length (some j)=j.toNat:=by
  have:=HT.sIx_nat xs.length xs.length j.toNat
  rw[toNat_of_nonneg (by omega)]at this
  rw[this];(clear h0 h1 e1;omega)
 rw[e1,e2]
inductive Tell (xs:List Int):Wk->List Bool->Prop
 |done {w:Wk} (h:w.pl<0):Tell xs w []
 |step {w:Wk} {ah:List Pa} {p:Pa} {bs:List Bool} (h:0<=w.pl) (h5:w.pl<=5000) (hf:w.fits) (e:w.ah=ah++[p]) (hp:PaOk xs p) (h1:p.a=1->ansB xs w.pl p=false->ah≠[]) (t:Tell xs ((w.step ah p (ansB xs w.pl p)).rowEnd) bs):Tell xs w (ansB xs w.pl p::bs)
theorem ib_lt {x:Int}{k:Nat}:2^k<=x.natAbs↔k<ibN x:=by
 unfold ibN
 split
 .rename_i h
  subst h
  have:=two_pow_pos k
  simp
 .rename_i h
  rw[<- Nat.le_log2 (by omega)]
  omega
def Kn (x:Int)(k:Nat)(lo hi:Int):Prop:=lo<=x/\x<=hi/\hi-lo=2^k-1/\((∃q:Int,0<q/\lo=q*2^k)∨(∃q:Int,0<q/\hi = -(q*2^k)))
theorem tdec {P:Prop}[Decidable P]:(true=decide P)↔P:=by rw[eq_comm,decide_eq_true_eq]
theorem fdec {P:Prop}[Decidable P]:(false=decide P)↔¬ P:=by rw[eq_comm,decide_eq_false_iff_not]
theorem p2pos (k:Nat):(0:Int)<2^k:=Int.pow_pos (by decide)
theorem p2succ (k:Nat):(2:Int)^(k+1)=2*2^k:=by rw[Int.pow_succ,Int.mul_comm]
theorem Kn.le {x:Int}{k:Nat}{lo hi:Int}(h:Kn x k lo hi):2^k<=(x.natAbs:Int):=by
 obtain⟨h1,h2,h3,h4⟩:=h
 have hp:=p2pos k
 rcases h4 with⟨q,hq,rfl⟩ | ⟨q,hq,rfl⟩
 .have:1*2^k<=q*2^k:=Int.mul_le_mul_of_nonneg_right (by omega) (by omega)
  omega
 .have:1*2^k<=q*2^k:=Int.mul_le_mul_of_nonneg_right (by omega) (by omega)
  omega
theorem bit_of {y u r c:Nat}(hc:0<c)(hu:∃q,u=q*c)(hy:y=2*u+r)(hr:r<2*c):y / c%2=1↔c<=r:=by
 obtain⟨q,rfl⟩:=hu
 have e:y / c=2*q+r / c:=by
  rw[hy,show 2*(q*c)+r=r+2*q*c by rw[Nat.mul_assoc];omega,Nat.add_mul_div_right _ _ hc,Nat.add_comm]
 rw[e]
 by_cases hz:c<=r
 .have:r / c=1:=Nat.div_eq_of_lt_le (by (clear hr;omega)) (by omega)
  clear hr;omega
 .have:r / c=0:=Nat.div_eq_of_lt (by (clear hr;omega))
  clear hr;omega
theorem Kn.neg {x:Int}{k:Nat}{lo hi:Int}(h:Kn x k lo hi):Kn (-x) k (-hi) (-lo):=by
 obtain⟨h1,h2,h3,h4⟩:=h
 refine⟨neg_le_neg h2,neg_le_neg h1,by rw[<- h3];omega,?_⟩
 rcases h4 with⟨q,hq,e⟩ | ⟨q,hq,e⟩
 .exact .inr ⟨q,hq,by rw[e]⟩
 .exact .inl ⟨q,hq,by rw[e,neg_neg]⟩
theorem kn_neg {x:Int}{k:Nat}{lo hi:Int}:Kn (-x) k (-hi) (-lo)↔Kn x k lo hi:=⟨λh=>by have:=h.neg;rwa[neg_neg,neg_neg,neg_neg]at this,Kn.neg⟩
theorem kn_up {x lo hi q:Int}{k:Nat}(h1:lo<=x)(h2:x<=hi)(h3:hi-lo=2^(k+1)-1)(hq:0<q)(e:lo=q*2^(k+1)):
  lo > 0/\(Kn x k (lo+2^k) hi↔x.natAbs / 2^k%2=1)/\(Kn x k lo (hi-2^k)↔¬ x.natAbs / 2^k%2=1):=by
 have hk:=two_pow_pos k
 have hcast:(2:Int)^k=((2^k:Nat):Int):=by simp
 unfold Kn
 rw[p2succ,hcast]at h3 e
 rw[hcast]
 generalize (2^k:Nat)=c at *
 clear hcast
 obtain⟨qn,rfl⟩:∃n:Nat,q=n:=⟨q.toNat,(toNat_of_nonneg (Int.le_of_lt hq)).symm⟩
 have hpos:0<qn*c:=Nat.mul_pos (Int.ofNat_lt.mp hq) hk
 have e':lo=((2*(qn*c):Nat):Int):=by rw[e];push_cast;rw[mul_left_comm]
 have f1:lo+(c:Int)=(2*(qn:Int)+1)*c:=by rw[e,add_mul,mul_assoc,mul_left_comm,Int.one_mul]
 have f2:lo=2*(qn:Int)*c:=by rw[e,mul_assoc,mul_left_comm]
 clear e
 generalize hm:qn*c=m at hpos e'
 obtain⟨xn,rfl⟩:∃n:Nat,x=n:=⟨x.toNat,(toNat_of_nonneg (by omega)).symm⟩
 have key:=bit_of (y:=xn) (u:=m) (r:=xn-2*m) hk ⟨qn,hm.symm⟩ (by clear h2 h3 f1 f2;omega) (by clear f1 f2;omega)
 rw[Int.natAbs_natCast,key]
 have q1:(0:Int)<2*(qn:Int)+1:=by clear f1 f2;omega
 have q2:(0:Int)<2*(qn:Int):=by clear f1 f2;omega
 have g1:lo+(c:Int)<=xn↔c<=xn-2*m:=by clear h2 h3 f1 f2;omega
 have g2:(xn:Int)<=hi-c↔¬ c<=xn-2*m:=by clear f1 f2;omega
 exact⟨by rw[f2];exact Int.mul_pos q2 (Int.ofNat_lt.mpr hk),⟨λg=>g1.mp g.1,λg=>⟨g1.mpr g,h2,by omega,.inl ⟨_,q1,f1⟩⟩⟩,⟨λg=>g2.mp g.2.1,λg=>⟨h1,g2.mpr g,by omega,.inl ⟨_,q2,f2⟩⟩⟩⟩
theorem Kn.figured {x:Int}{k:Nat}{p:Pa}{b:Bool}(h:Kn x (k+1) p.lo p.hi):Kn x k (p.figured k b).lo (p.figured k b).hi↔b=decide (x.natAbs / 2^k%2=1):=by
 obtain⟨h1,h2,h3,h4⟩:=h
 unfold Pa.figured
 rcases h4 with⟨q,hq,e⟩ | ⟨q,hq,e⟩
 .obtain ⟨a1,a2,a3⟩:=kn_up h1 h2 h3 hq e
  rw[decide_eq_true a1]
  cases b with
  |true=>rw[if_pos rfl,tdec,<- a2]
  |false=>rw[if_neg (by decide),fdec,<- a3]
 .obtain ⟨a1,a2,a3⟩:=kn_up (x:=-x) (lo:=-p.hi) (hi:=-p.lo) (neg_le_neg h2) (neg_le_neg h1) (by rw[<- h3];omega) hq (by rw[e,neg_neg])
  have hd:decide (p.lo > 0)=false:=decide_eq_false (by omega)
  rw[hd]
  rw[Int.natAbs_neg,show -p.hi+2^k = -(p.hi-2^k) by omega,kn_neg]at a2
  rw[Int.natAbs_neg,show -p.lo-2^k = -(p.lo+2^k) by omega,kn_neg]at a3
  cases b with
  |true=>rw[if_neg (by decide),tdec,<- a2]
  |false=>rw[if_pos rfl,fdec,<- a3]
theorem Kn.signed {x:Int}{k:Nat}{p:Pa}{b:Bool}(h1:2^k<=x.natAbs)(h2:x.natAbs<2^(k+1)):Kn x k (p.signed k b).lo (p.signed k b).hi↔b=decide (x<0):=by
 have hk:=two_pow_pos k
 have hcast:(2:Int)^k=((2^k:Nat):Int):=by simp
 rw[Nat.pow_succ]at h2
 unfold Kn Pa.signed
 rw[hcast]
 generalize (2^k:Nat)=c at *
 cases b with
 |true=>
  rw[if_pos rfl,tdec]
  dsimp only
  constructor
  .rintro ⟨_,g1,_⟩;omega
  .intro g
   exact⟨by omega,by omega,by omega,.inr ⟨1,by omega,by omega⟩⟩
 |false=>
  rw[if_neg (by decide),fdec]
  dsimp only
  constructor
  .rintro ⟨g1,_⟩;omega
  .intro g
   exact⟨by omega,by omega,by omega,.inl ⟨1,by omega,by omega⟩⟩
def ShK (k:Nat)(lo hi:Int):Prop:=hi-lo=2^k-1/\((∃q:Int,0<q/\lo=q*2^k)∨(∃q:Int,0<q/\hi = -(q*2^k)))
def ShW (k:Nat)(p:Pa):Prop:=0<=p.s/\p.s<p.e/\((p.a=3/\p.e=p.s+1/\ShK k p.lo p.hi)∨(p.a=0/\p.lo=1-2^k/\p.hi=2^k-1))
def ShA (k:Nat)(p:Pa):Prop:=0<=p.s/\p.s<p.e/\((p.a=3/\p.e=p.s+1/\ShK k p.lo p.hi)∨((p.a=0∨p.a=1)/\p.lo=1-2^k/\p.hi=2^k-1)∨(p.a=2/\p.e=p.s+1/\p.lo=1-2^k/\p.hi=2^k-1))
def Low (xs:List Int)(k:Nat)(s e:Int):Prop:=∀i:Nat,s<=i->(i:Int)<e->(xs.getD i 0).natAbs<2^k
def Big (xs:List Int)(k:Nat)(s e:Int):Prop:=∃i:Nat,s<=i/\(i:Int)<e/\2^k<=(xs.getD i 0).natAbs
def CW (xs:List Int)(k:Nat)(p:Pa):Prop:=(p.a=3->p.lo<=xs.getD p.s.toNat 0/\xs.getD p.s.toNat 0<=p.hi)/\(p.a=0->Low xs k p.s p.e)
def CA (xs:List Int)(k:Nat)(p:Pa):Prop:=(p.a=3->p.lo<=xs.getD p.s.toNat 0/\xs.getD p.s.toNat 0<=p.hi)/\(p.a≠3->Low xs (k+1) p.s p.e)/\(p.a=2->Big xs k p.s p.e)
theorem not_low {xs:List Int}{k:Nat}{s e:Int}:¬ Low xs k s e↔Big xs k s e:=by
 unfold Low Big
 constructor
 .intro h
  exact Classical.byContradiction λz=>h λi h1 h2=>Nat.lt_of_not_le λy=>z ⟨i,h1,h2,y⟩
 .rintro ⟨i,h1,h2,h3⟩ h
  have:=h i h1 h2
  omega
theorem Low.mono {xs:List Int}{k l:Nat}{s e:Int}(h:Low xs k s e)(hl:k<=l):Low xs l s e:=λi h1 h2=>lt_of_lt_of_le (h i h1 h2) (Nat.pow_le_pow_right (by decide) hl)
theorem Low.split {xs:List Int}{k:Nat}{s m e:Int}(h1:s<=m)(h2:m<=e):Low xs k s e↔Low xs k s m/\Low xs k m e:=by
 constructor
 .intro h
  exact⟨λi a b=>h i a (by omega),λi a b=>h i (by omega) b⟩
 .rintro ⟨a,b⟩ i c d
  by_cases z:(i:Int)<m
  .exact a i c z
  .exact b i (by omega) d
theorem Big.split {xs:List Int}{k:Nat}{s m e:Int}(h1:s<=m)(h2:m<=e):Big xs k s e↔Big xs k s m∨Big xs k m e:=by
 rw[<- not_low,Low.split h1 h2,<- not_low,<- not_low]
 exact⟨λz=>(Classical.em _).elim (λa=>.inr λb=>z ⟨a,b⟩) .inl,λz ⟨a,b⟩=>z.elim (λc=>c a) λc=>c b⟩
theorem ans_big {xs:List Int}{k:Nat}{p:Pa}(h3:p.a≠3)(h2:p.a≠2)(h0:0<=p.s)(h1:p.s<p.e)(he:p.e<=(xs.length:Int)):ansB xs (k:Int) p=true↔Big xs k p.s p.e:=by
 unfold ansB Big
 rw[if_neg h3,if_neg h2,any_eq_true]
 constructor
 .rintro ⟨x,hx,hk⟩
  obtain⟨i,hi⟩:=List.mem_iff_getElem?.mp hx
  have hil:=(List.getElem?_eq_some_iff.mp hi).1
  rw[length_take,length_drop]at hil
  rw[List.getElem?_take_of_lt (by omega),getElem?_drop]at hi
  refine⟨p.s.toNat+i,by omega,by omega,?_⟩
  rw[List.getD_eq_getElem?_getD,hi]
  show 2^k<=x.natAbs
  exact ib_lt.mpr (by have:=of_decide_eq_true hk;omega)
 .rintro ⟨i,a,b,c⟩
  refine⟨xs.getD i 0,List.mem_iff_getElem?.mpr ⟨i-p.s.toNat,?_⟩,decide_eq_true (by have:=ib_lt.mp c;omega)⟩
  rw[List.getElem?_take_of_lt (by (clear c;omega)),getElem?_drop,show p.s.toNat+(i-p.s.toNat)=i by (clear h0 he c;omega),List.getD_eq_getElem?_getD,getElem?_eq_getElem (by omega)]
  rfl
theorem kn_iff {x:Int}{k:Nat}{lo hi:Int}:Kn x k lo hi↔ShK k lo hi/\lo<=x/\x<=hi:=by
 unfold Kn ShK
 constructor
 .rintro ⟨a,b,c,d⟩;exact⟨⟨c,d⟩,a,b⟩
 .rintro ⟨⟨c,d⟩,a,b⟩;exact⟨a,b,c,d⟩
theorem ShK.figured {k:Nat}{p:Pa}{b:Bool}(h:ShK (k+1) p.lo p.hi):ShK k (p.figured k b).lo (p.figured k b).hi/\p.lo<=(p.figured k b).lo/\(p.figured k b).hi<=p.hi:=by
 obtain⟨h3,h4⟩:=h
 rw[p2succ]at h3 h4
 have hk:=p2pos k
 unfold ShK Pa.figured
 generalize (2:Int)^k=c at *
 split
 .rename_i hb
  dsimp only
  refine⟨⟨by omega,?_⟩,by omega,by omega⟩
  rcases h4 with⟨q,hq,e⟩ | ⟨q,hq,e⟩
  .exact .inl ⟨2*q+1,by omega,by rw[e,add_mul,mul_left_comm,mul_assoc];omega⟩
  .exact .inr ⟨2*q,by omega,by rw[e,mul_left_comm,mul_assoc]⟩
 .rename_i hb
  dsimp only
  refine⟨⟨by omega,?_⟩,by omega,by omega⟩
  rcases h4 with⟨q,hq,e⟩ | ⟨q,hq,e⟩
  .exact .inl ⟨2*q,by omega,by rw[e,mul_left_comm,mul_assoc]⟩
  .exact .inr ⟨2*q+1,by omega,by rw[e,add_mul,mul_left_comm,mul_assoc];omega⟩
theorem ShK.signed {k:Nat}{p:Pa}{b:Bool}:ShK k (p.signed k b).lo (p.signed k b).hi:=by
 unfold ShK Pa.signed
 have hk:=p2pos k
 generalize (2:Int)^k=c at *
 split
 .exact ⟨by dsimp only;omega,.inr ⟨1,by omega,by dsimp only;omega⟩⟩
 .exact ⟨by dsimp only;omega,.inl ⟨1,by omega,by dsimp only;omega⟩⟩
theorem fig_iff {xs:List Int}{k:Nat}{p:Pa}{b:Bool}(h3:p.a=3)(hs:ShK (k+1) p.lo p.hi):CW xs k (p.figured k b)↔CA xs k p/\b=ansB xs (k:Int) p:=by
 have ha:ansB xs (k:Int) p=decide ((xs.getD p.s.toNat 0).natAbs / 2^k%2=1):=by
  unfold ansB
  rw[if_pos h3]
  rfl
 have fa:(p.figured k b).a=3/\(p.figured k b).s=p.s/\(p.figured k b).e=p.e:=by unfold Pa.figured;split<;>exact⟨rfl,rfl,rfl⟩
 obtain⟨g1,g2,g3⟩:=hs.figured (p:=p) (b:=b)
 rw[ha]
 unfold CW CA
 rw[fa.1,fa.2.1,fa.2.2]
 generalize xs.getD p.s.toNat 0=x
 constructor
 .rintro ⟨h,_⟩
  obtain⟨a1,a2⟩:=h rfl
  have kn:Kn x (k+1) p.lo p.hi:=kn_iff.mpr ⟨hs,by omega,by omega⟩
  exact⟨⟨λ_=>⟨by omega,by omega⟩,λz=>absurd h3 z,λz=>by rw[h3]at z;cases z⟩,kn.figured.mp (kn_iff.mpr ⟨g1,a1,a2⟩)⟩
 .rintro ⟨⟨h,_,_⟩,hb⟩
  have kn:Kn x (k+1) p.lo p.hi:=kn_iff.mpr ⟨hs,h h3⟩
  exact⟨λ_=>(kn_iff.mp (kn.figured.mpr hb)).2,λz=>by cases z⟩
theorem one_low {xs:List Int}{k:Nat}{s:Int}(h:0<=s):Low xs k s (s+1)↔(xs.getD s.toNat 0).natAbs<2^k:=by
 unfold Low
 constructor
 .intro z;exact z s.toNat (by omega) (by omega)
 .intro z i a b
  rw[show i=s.toNat by (clear z;omega)];exact z
theorem one_big {xs:List Int}{k:Nat}{s:Int}(h:0<=s):Big xs k s (s+1)↔2^k<=(xs.getD s.toNat 0).natAbs:=by
 rw[<- not_low,one_low h]
 omega
theorem sig_iff {xs:List Int}{k:Nat}{p:Pa}{b:Bool}(h2:p.a=2)(h0:0<=p.s)(he:p.e=p.s+1):CW xs k (p.signed k b)↔CA xs k p/\b=ansB xs (k:Int) p:=by
 have ha:ansB xs (k:Int) p=decide (xs.getD p.s.toNat 0<0):=by
  unfold ansB
  rw[if_neg (by rw[h2];decide),if_pos h2]
 have fa:(p.signed k b).a=3/\(p.signed k b).s=p.s/\(p.signed k b).e=p.e:=by unfold Pa.signed;split<;>exact⟨rfl,rfl,rfl⟩
 rw[ha]
 unfold CW CA
 rw[fa.1,fa.2.1,fa.2.2,he]
 simp only[one_low h0,one_big h0]
 generalize xs.getD p.s.toNat 0=x
 have hp:=two_pow_pos k
 constructor
 .rintro ⟨h,_⟩
  have kn:Kn x k (p.signed k b).lo (p.signed k b).hi:=kn_iff.mpr ⟨ShK.signed,h trivial⟩
  have l1:2^k<=x.natAbs:=by
   have:=kn.le
   exact_mod_cast this
  have l2:x.natAbs<2^(k+1):=by
   obtain⟨a1,a2⟩:=h trivial
   have hc:(2:Int)^k=((2^k:Nat):Int):=by simp
   rw[Nat.pow_succ]
   unfold Pa.signed at a1 a2
   rw[hc]at a1 a2
   generalize (2^k:Nat)=c at *
   split at a1
   .rename_i z
    rw[if_pos z]at a2
    dsimp only at a1 a2
    clear h2 h0 he fa;omega
   .rename_i z
    rw[if_neg z]at a2
    dsimp only at a1 a2
    clear h2 h0 he fa;omega
  exact⟨⟨(λz=>by rw[h2]at z;cases z),λ_=>l2,λ_=>l1⟩,(Kn.signed l1 l2).mp kn⟩
 .rintro ⟨⟨_,l2,l1⟩,hb⟩
  exact⟨λ_=>(kn_iff.mp ((Kn.signed (p:=p) (l1 h2) (l2 (by rw[h2];decide))).mpr hb)).2,λz=>by cases z⟩
theorem tdec' {b:Bool}:(true=b)↔b=true:=eq_comm
theorem fdec' {b:Bool}:(false=b)↔¬ b=true:=by cases b<;>simp
def Pair (xs:List Int)(k:Nat)(ah:List Pa):Prop:=∀r q p,ah=r++[q,p]->p.a=1->Big xs k p.s q.e
def CAs (xs:List Int)(k:Nat)(ah:List Pa):Prop:=(∀p∈ah,CA xs k p)/\Pair xs k ah
theorem pair_no {xs:List Int}{k:Nat}{ah:List Pa}{p:Pa}(h:p.a≠1):Pair xs k (ah++[p]):=λr q p' e h'=>by
 have:ah++[p]=(r++[q])++[p']:=by rw[e];simp
 obtain⟨_,e2⟩:=append_inj' this rfl
 rw[List.cons.inj e2 |>.1]at h
 exact absurd h' h
theorem pair_none {xs:List Int}{k:Nat}{ah:List Pa}(h:∀z∈ah,z.a≠1):Pair xs k ah:=λr q p e h'=>absurd h' (h p (by rw[e];simp))
theorem pair_two {xs:List Int}{k:Nat}{ah:List Pa}{q p:Pa}(h:p.a=1):Pair xs k (ah++[q,p])↔Big xs k p.s q.e:=by
 constructor
 .intro z;exact z ah q p rfl h
 .intro z r q' p' e _
  obtain⟨_,e2⟩:=append_inj' e rfl
  obtain⟨a,b⟩:=List.cons.inj e2
  obtain⟨c,_⟩:=List.cons.inj b
  rw[<- a,<- c];exact z
theorem wake_iff {xs:List Int}{k:Nat}{w:Wk}{q:Pa}(h0:0<=q.s)(h1:q.s<q.e)(hn:∀z∈w.ah,z.a≠1):
  CAs xs k (w.wake q).ah↔(∀z∈w.ah,CA xs k z)/\Low xs (k+1) q.s q.e/\Big xs k q.s q.e:=by
 unfold Wk.wake CAs
 split
 .rename_i c
  dsimp only
  have hp:Pair xs k (w.ah++[⟨2,q.s,q.e,q.lo,q.hi⟩]):=pair_no (by show ¬ (2:Int)=1;decide)
  have hc:CA xs k ⟨2,q.s,q.e,q.lo,q.hi⟩↔Low xs (k+1) q.s q.e/\Big xs k q.s q.e:=by
   unfold CA
   dsimp only
   exact⟨λz=>⟨z.2.1 (by decide),z.2.2 rfl⟩,λz=>⟨λy=>absurd y (by decide),λ_=>z.1,λ_=>z.2⟩⟩
  rw[forall_mem_append,forall_mem_singleton,hc]
  exact⟨λz=>z.1,λz=>⟨z,hp⟩⟩
 .rename_i c
  dsimp only
  have hm1:q.s<(q.s+q.e) / 2:=by omega
  have hm2:(q.s+q.e) / 2<q.e:=by omega
  generalize (q.s+q.e) / 2=m at hm1 hm2
  have hc:∀(a s e:Int),a≠3->a≠2->(CA xs k ⟨a,s,e,q.lo,q.hi⟩↔Low xs (k+1) s e):=by
   intro a s e n3 n2
   unfold CA
   dsimp only
   exact⟨λz=>z.2.1 n3,λz=>⟨λy=>absurd y n3,λ_=>z,λy=>absurd y n2⟩⟩
  have hp:=pair_two (xs:=xs) (k:=k) (ah:=w.ah) (q:=⟨0,m,q.e,q.lo,q.hi⟩) (p:=⟨1,q.s,m,q.lo,q.hi⟩) rfl
  rw[hp,forall_mem_append,List.forall_mem_cons,forall_mem_singleton,hc _ _ _ (by decide) (by decide),hc _ _ _ (by decide) (by decide)]
  have hs:=Low.split (xs:=xs) (k:=k+1) (s:=q.s) (m:=m) (e:=q.e) (by omega) (by omega)
  dsimp only
  exact⟨λ⟨⟨a,b,c⟩,d⟩=>⟨a,hs.mpr ⟨c,b⟩,d⟩,λ⟨a,cb,d⟩=>⟨⟨a,(hs.mp cb).2,(hs.mp cb).1⟩,d⟩⟩
theorem wake_wk (w:Wk)(q:Pa):(w.wake q).wk=w.wk/\(w.wake q).pl=w.pl/\(w.wake q).us=w.us/\(w.wake q).re=w.re:=by
 unfold Wk.wake
 split<;>exact⟨rfl,rfl,rfl,rfl⟩
structure Sib (ah:List Pa) (p:Pa):Prop where
 no:∀z∈ah,z.a≠1
 sib:p.a=1->∃r q,ah=r++[q]/\q.a=0/\q.s=p.e/\q.s<q.e/\0<=q.s
def Comp (xs:List Int)(k:Nat)(w:Wk):Prop:=(∀p∈w.wk,CW xs k p)/\CAs xs k w.ah
theorem step_iff {xs:List Int}{k:Nat}{w:Wk}{ah:List Pa}{p:Pa}{b:Bool}(hk:w.pl=k)(e:w.ah=ah++[p])(hs:ShA (k+1) p)(hb:Sib ah p)(he:p.e<=(xs.length:Int)):
  Comp xs k (w.step ah p b)↔Comp xs k w/\b=ansB xs (k:Int) p:=by
 obtain⟨h0,h1,h2⟩:=hs
 have ek:w.pl.toNat=k:=by omega
 have hno:=hb.no
 have hpn:Pair xs k ah:=pair_none hno
 unfold Wk.step Comp
 rw[e]
 by_cases c3:p.a=3
 .rw [if_pos c3,ek]
  dsimp only
  have hsh:ShK (k+1) p.lo p.hi:=by
   rcases h2 with z |z |z
   .exact z.2.2
   .rcases z.1 with y |y<;>rw[c3]at y<;>cases y
   .rw [c3]at z;cases z.1
  have hp:Pair xs k (ah++[p]):=pair_no (by rw[c3];decide)
  unfold CAs
  rw[forall_mem_append,forall_mem_singleton,fig_iff c3 hsh,forall_mem_append,forall_mem_singleton]
  exact⟨λ⟨⟨a,b,c⟩,d,_⟩=>⟨⟨a,⟨d,b⟩,hp⟩,c⟩,λ⟨⟨a,⟨d,b⟩,_⟩,c⟩=>⟨⟨a,b,c⟩,d,hpn⟩⟩
 .rw [if_neg c3]
  by_cases c2:p.a=2
  .rw [if_pos c2,ek]
   dsimp only
   have hsh:p.e=p.s+1:=by
    rcases h2 with z |z |z
    .rw [c2]at z;cases z.1
    .rcases z.1 with y |y<;>rw[c2]at y<;>cases y
    .exact z.2.1
   have hp:Pair xs k (ah++[p]):=pair_no (by rw[c2];decide)
   unfold CAs
   rw[forall_mem_append,forall_mem_singleton,sig_iff c2 h0 hsh,forall_mem_append,forall_mem_singleton]
   exact⟨λ⟨⟨a,b,c⟩,d,_⟩=>⟨⟨a,⟨d,b⟩,hp⟩,c⟩,λ⟨⟨a,⟨d,b⟩,_⟩,c⟩=>⟨⟨a,b,c⟩,d,hpn⟩⟩
  .rw [if_neg c2]
   have hans:=ans_big (xs:=xs) (k:=k) c3 c2 h0 h1 he
   have hca:CA xs k p↔Low xs (k+1) p.s p.e:=by
    unfold CA
    exact⟨λz=>z.2.1 c3,λz=>⟨λy=>absurd y c3,λ_=>z,λy=>absurd y c2⟩⟩
   cases b with
   |true=>
    rw[if_pos rfl,(wake_wk _ _).1,wake_iff h0 h1 hno,tdec',hans]
    unfold CAs
    rw[forall_mem_append,forall_mem_singleton,hca]
    constructor
    .rintro ⟨a,d,l,g⟩
     refine⟨⟨a,⟨d,l⟩,?_⟩,g⟩
     by_cases c1:p.a=1
     .obtain ⟨r,q,rfl,_,q2,q3,_⟩:=hb.sib c1
      rw[append_assoc]
      refine (pair_two c1).mpr ?_
      obtain⟨i,i1,i2,i3⟩:=g
      exact⟨i,i1,by (clear hk he ek i3;omega),i3⟩
     .exact pair_no c1
    .rintro ⟨⟨a,⟨d,l⟩,_⟩,g⟩
     exact⟨a,d,l,g⟩
   |false=>
    rw[if_neg (by decide),fdec',hans]
    have hcw:∀lo hi:Int,CW xs k ⟨0,p.s,p.e,lo,hi⟩↔Low xs k p.s p.e:=by
     intro lo hi
     unfold CW
     dsimp only
     exact⟨λz=>z.2 rfl,λz=>⟨λy=>absurd y (by decide),λ_=>z⟩⟩
    have hlb:Low xs k p.s p.e↔Low xs (k+1) p.s p.e/\¬ Big xs k p.s p.e:=by
     rw[<- not_low,Classical.not_not]
     exact⟨λz=>⟨z.mono (by omega),z⟩,λz=>z.2⟩
    unfold Wk.calm
    by_cases c1:p.a=1
    .rw [if_pos c1]
     obtain⟨r,q,rfl,qa,q2,q3,q0⟩:=hb.sib c1
     have hca':CA xs k q↔Low xs (k+1) q.s q.e:=by
      unfold CA
      exact⟨λz=>z.2.1 (by rw[qa];decide),λz=>⟨(λy=>by rw[qa]at y;cases y),λ_=>z,(λy=>by rw[qa]at y;cases y)⟩⟩
     have hpr:Pair xs k (r++[q]++[p])↔Big xs k p.s q.e:=by rw[append_assoc];exact pair_two c1
     have hbs:=Big.split (xs:=xs) (k:=k) (s:=p.s) (m:=p.e) (e:=q.e) (by (clear hk he ek;omega)) (by (clear hk he ek;omega))
     rw[(wake_wk _ _).1,wake_iff (by rw[getLastD_concat];exact q0) (by rw[getLastD_concat];exact q3) (by
      dsimp only
      rw[dropLast_concat]
      exact λz hz=>hno z (by simp[hz]))]
     unfold Wk.walked CAs
     dsimp only
     rw[dropLast_concat,getLastD_concat,forall_mem_append,forall_mem_singleton,hcw,hlb,hpr,hbs,forall_mem_append,forall_mem_singleton,forall_mem_append,forall_mem_singleton,hca,hca',<- q2]
     constructor
     .rintro ⟨⟨a,l,n⟩,d,lq,bq⟩
      exact⟨⟨a,⟨⟨d,lq⟩,l⟩,.inr bq⟩,n⟩
     .rintro ⟨⟨a,⟨⟨d,lq⟩,l⟩,pb⟩,n⟩
      exact⟨⟨a,l,n⟩,d,lq,pb.elim (λz=>absurd z n) id⟩
    .rw [if_neg c1]
     unfold Wk.walked CAs
     dsimp only
     have hp:Pair xs k (ah++[p]):=pair_no c1
     rw[forall_mem_append,forall_mem_singleton,hcw,hlb,forall_mem_append,forall_mem_singleton,hca]
     exact⟨λ⟨⟨a,l,n⟩,d,_⟩=>⟨⟨a,⟨d,l⟩,hp⟩,n⟩,λ⟨⟨a,⟨d,l⟩,_⟩,n⟩=>⟨⟨a,l,n⟩,d,hpn⟩⟩
def CompW (xs:List Int)(w:Wk):Prop:=Comp xs w.pl.toNat w
theorem turn_iff {xs:List Int}{w:Wk}(h0:0<=w.pl)(ha:w.ah=[])(hk:∀p∈w.wk,p.a=0∨p.a=3):CompW xs w.turn↔CompW xs w:=by
 unfold CompW Wk.turn
 split
 .rename_i c
  dsimp only
  obtain⟨k,hk1⟩:∃k:Nat,w.pl=k+1:=⟨(w.pl-1).toNat,by omega⟩
  rw[hk1,show ((k:Int)+1-1).toNat=k by omega,show ((k:Int)+1).toNat=k+1 by omega]
  unfold Comp CAs
  rw[ha]
  have hp:Pair xs k w.wk.reverse:=pair_none λz hz=>by
   rcases hk z (by simpa using hz) with y |y<;>rw[y]<;>decide
  have hp2:Pair xs (k+1) ([]:List Pa):=pair_none λz hz=>by cases hz
  have hc:∀p∈w.wk,(CA xs k p↔CW xs (k+1) p):=by
   intro p hp
   unfold CA CW
   rcases hk p hp with y |y
   .rw [y]
    exact⟨λz=>⟨z.1,λ_=>z.2.1 (by decide)⟩,λz=>⟨z.1,λ_=>z.2 rfl,λy=>absurd y (by decide)⟩⟩
   .rw [y]
    exact⟨λz=>⟨z.1,λy=>absurd y (by decide)⟩,λz=>⟨z.1,λy=>absurd rfl y,λy=>absurd y (by decide)⟩⟩
  constructor
  .rintro ⟨_,a,_⟩
   exact⟨λp hp=>(hc p hp).mp (a p (by simpa using hp)),(λp hp=>by cases hp),hp2⟩
  .rintro ⟨a,_,_⟩
   exact⟨(λp hp=>by cases hp),λp hq=>(hc p (by simpa using hq)).mpr (a p (by simpa using hq)),hp⟩
 .rename_i c
  dsimp only
  have e:w.pl=0:=by omega
  rw[e]
  exact Iff.rfl
theorem rowEnd_iff {xs:List Int}{w:Wk}(h0:0<=w.pl)(hk:∀p∈w.wk,p.a=0∨p.a=3):CompW xs w.rowEnd↔CompW xs w:=by
 unfold Wk.rowEnd
 split
 .rename_i c
  exact turn_iff (w:={w with re:=w.re++[w.us]}) h0 c hk
 .exact Iff.rfl
def Chain:Int->List Pa->Int->Prop
 |a,[],b=>a=b
 |a,p::ps,b=>p.s=a/\p.s<p.e/\Chain p.e ps b
theorem chain_app {a b:Int}:∀{ps qs:List Pa},Chain a (ps++qs) b↔∃c,Chain a ps c/\Chain c qs b
 | [],qs=>by
  constructor
  .intro h;exact⟨a,rfl,h⟩
  .rintro ⟨c,h1,h2⟩;cases (show a=c from h1);exact h2
 |p::ps,qs=>by
  show (p.s=a/\p.s<p.e/\Chain p.e (ps++qs) b)↔∃c,(p.s=a/\p.s<p.e/\Chain p.e ps c)/\Chain c qs b
  rw[chain_app]
  constructor
  .rintro ⟨h1,h2,c,h3,h4⟩;exact⟨c,⟨h1,h2,h3⟩,h4⟩
  .rintro ⟨c,⟨h1,h2,h3⟩,h4⟩;exact⟨h1,h2,c,h3,h4⟩
theorem chain_le:∀{ps:List Pa} {a b:Int},Chain a ps b->a+ps.length<=b
 | [],a,b,h=>by cases (show a=b from h);simp
 |p::ps,a,b,⟨h1,h2,h3⟩=>by
  have:=chain_le h3
  simp only[length_cons]
  omega
theorem chain_mem:∀{ps:List Pa} {a b:Int} {p:Pa},Chain a ps b->p∈ps->a<=p.s/\p.s<p.e/\p.e<=b
 |q :: ps,a,b,p,⟨h1,h2,h3⟩,hp=>by
  rcases mem_cons.mp hp with rfl |hp
  .have:=chain_le h3
   exact⟨by omega,h2,by omega⟩
  .have:=chain_mem h3 hp
   exact⟨by omega,this.2.1,this.2.2⟩
theorem chain_same {a b:Int}{xs ys:List Pa}{p p':Pa}(h:Chain a (xs++p::ys) b)(hs:p'.s=p.s)(he:p'.e=p.e):Chain a (xs++p'::ys) b:=by
 rw[chain_app]at h ⊢
 obtain⟨c,h1,h2,h3,h4⟩:=h
 exact⟨c,h1,by rw[hs];exact h2,by rw[hs,he];exact h3,by rw[he];exact h4⟩
theorem chain_split {a b:Int}{xs ys:List Pa}{p p1 p2:Pa}(h:Chain a (xs++p::ys) b)(h1:p1.s=p.s)(h2:p1.e=p2.s)(h3:p2.e=p.e)(h4:p1.s<p1.e)(h5:p2.s<p2.e):Chain a (xs++p1::p2::ys) b:=by
 rw[chain_app]at h ⊢
 obtain⟨c,g1,g2,g3,g4⟩:=h
 exact⟨c,g1,by rw[h1];exact g2,h4,h2.symm,h5,by rw[h3];exact g4⟩
structure Sh0 (m:Int) (k:Nat) (w:Wk):Prop where
 ch:Chain 0 (w.wk++w.ah.reverse) m
 wk:∀p∈w.wk,ShW k p
 ah:∀p∈w.ah,ShA (k+1) p
 sib:∀ah p,w.ah=ah++[p]->Sib ah p
theorem sib_no {ah:List Pa}{p:Pa}(hn:∀z∈ah,z.a≠1)(hp:p.a≠1):∀ah' p',ah++[p]=ah'++[p']->Sib ah' p':=λah' p' e=>by
 obtain⟨rfl,e2⟩:=append_inj' e rfl
 cases e2
 exact⟨hn,λz=>absurd z hp⟩
theorem sib_all {ah:List Pa}(hn:∀z∈ah,z.a≠1):∀ah' p',ah=ah'++[p']->Sib ah' p':=λah' p' e=>
 ⟨λz hz=>hn z (by rw[e];simp[hz]),λz=>absurd z (hn p' (by rw[e];simp))⟩
theorem wake_shape {m:Int}{k:Nat}{w:Wk}{q:Pa}(h0:0<=q.s)(h1:q.s<q.e)(hq:q.lo=1-2^(k+1)/\q.hi=2^(k+1)-1)(hc:Chain 0 (w.wk++q::w.ah.reverse) m)(hw:∀p∈w.wk,ShW k p)(ha:∀p∈w.ah,ShA (k+1) p)(hn:∀z∈w.ah,z.a≠1):Sh0 m k (w.wake q):=by
 unfold Wk.wake
 split
 .rename_i c
  refine⟨?_,hw,?_,?_⟩
  .show Chain 0 (w.wk++(w.ah++[_]).reverse) m
   rw[reverse_append]
   exact chain_same hc rfl rfl
  .intro p hp
   rcases mem_append.mp hp with z |z
   .exact ha p z
   .rw [mem_singleton.mp z]
    exact⟨h0,h1,.inr (.inr ⟨rfl,by show q.e=q.s+1;omega,hq.1,hq.2⟩)⟩
  .exact sib_no hn (by show ¬ (2:Int)=1;decide)
 .rename_i c
  have hm1:q.s<(q.s+q.e) / 2:=by omega
  have hm2:(q.s+q.e) / 2<q.e:=by omega
  generalize (q.s+q.e) / 2=mid at hm1 hm2
  refine⟨?_,hw,?_,?_⟩
  .show Chain 0 (w.wk++(w.ah++[_,_]).reverse) m
   rw[reverse_append]
   exact chain_split hc rfl rfl rfl hm1 hm2
  .intro p hp
   rcases mem_append.mp hp with z |z
   .exact ha p z
   .rcases mem_cons.mp z with z |z
    .rw [z];exact⟨by show 0<=mid;omega,hm2,.inr (.inl ⟨.inl rfl,hq.1,hq.2⟩)⟩
    .rw [mem_singleton.mp z];exact⟨h0,hm1,.inr (.inl ⟨.inr rfl,hq.1,hq.2⟩)⟩
  .intro ah' p' e
   have e':(w.ah++[⟨0,mid,q.e,q.lo,q.hi⟩])++[⟨1,q.s,mid,q.lo,q.hi⟩]=ah'++[p']:=by rw[append_assoc];exact e
   obtain⟨rfl,e2⟩:=append_inj' e' rfl
   cases e2
   refine⟨λz hz=>?_,λ_=>⟨w.ah,_,rfl,rfl,rfl,hm2,by show 0<=mid;omega⟩⟩
   rcases mem_append.mp hz with y |y
   .exact hn z y
   .rw [mem_singleton.mp y];show ¬ (0:Int)=1;decide
theorem step_shape {m:Int}{k:Nat}{w:Wk}{ah:List Pa}{p:Pa}{b:Bool}(S:Sh0 m k w)(hk:w.pl=k)(e:w.ah=ah++[p]):Sh0 m k (w.step ah p b):=by
 have ek:w.pl.toNat=k:=by omega
 have hb:=S.sib ah p e
 have hA:∀z∈ah,ShA (k+1) z:=λz hz=>S.ah z (by rw[e];simp[hz])
 obtain⟨h0,h1,h2⟩:=S.ah p (by rw[e];simp)
 have hc:=S.ch
 rw[e,reverse_append]at hc
 have hc:Chain 0 (w.wk++p::ah.reverse) m:=hc
 have put:∀p':Pa,p'.s=p.s->p'.e=p.e->ShW k p'->Sh0 m k {w with us:=w.us+1,ah:=ah,wk:=w.wk++[p']}:=λp' hs he hw=>by
  refine⟨?_,λz hz=>?_,hA,sib_all hb.no⟩
  .show Chain 0 (w.wk++[p']++ah.reverse) m
   rw[append_assoc]
   exact chain_same hc hs he
  .rcases mem_append.mp hz with y |y
   .exact S.wk z y
   .rw [mem_singleton.mp y];exact hw
 unfold Wk.step
 by_cases c3:p.a=3
 .rw [if_pos c3,ek]
  have hsh:p.e=p.s+1/\ShK (k+1) p.lo p.hi:=by
   rcases h2 with z |z |z
   .exact z.2
   .rcases z.1 with y |y<;>rw[c3]at y<;>cases y
   .rw [c3]at z;cases z.1
  have fa:(p.figured k b).a=3/\(p.figured k b).s=p.s/\(p.figured k b).e=p.e:=by unfold Pa.figured;split<;>exact⟨rfl,rfl,rfl⟩
  exact put _ fa.2.1 fa.2.2 ⟨by rw[fa.2.1];exact h0,by rw[fa.2.1,fa.2.2];exact h1,.inl ⟨fa.1,by rw[fa.2.1,fa.2.2];exact hsh.1,(hsh.2.figured).1⟩⟩
 .rw [if_neg c3]
  by_cases c2:p.a=2
  .rw [if_pos c2,ek]
   have hsh:p.e=p.s+1:=by
    rcases h2 with z |z |z
    .rw [c2]at z;cases z.1
    .rcases z.1 with y |y<;>rw[c2]at y<;>cases y
    .exact z.2.1
   have fa:(p.signed k b).a=3/\(p.signed k b).s=p.s/\(p.signed k b).e=p.e:=by unfold Pa.signed;split<;>exact⟨rfl,rfl,rfl⟩
   exact put _ fa.2.1 fa.2.2 ⟨by rw[fa.2.1];exact h0,by rw[fa.2.1,fa.2.2];exact h1,.inl ⟨fa.1,by rw[fa.2.1,fa.2.2];exact hsh,ShK.signed⟩⟩
  .rw [if_neg c2]
   have hcalm:p.lo=1-2^(k+1)/\p.hi=2^(k+1)-1:=by
    rcases h2 with z |z |z
    .exact absurd z.1 c3
    .exact z.2
    .exact absurd z.1 c2
   split
   .exact wake_shape h0 h1 hcalm hc S.wk hA hb.no
   .have hw:ShW k ⟨0,p.s,p.e,1-2^k,2^k-1⟩:=⟨h0,h1,.inr ⟨rfl,rfl,rfl⟩⟩
    unfold Wk.calm
    by_cases c1:p.a=1
    .rw [if_pos c1]
     obtain⟨r,q,rfl,qa,q2,q3,q0⟩:=hb.sib c1
     have hq:q.lo=1-2^(k+1)/\q.hi=2^(k+1)-1:=by
      rcases (hA q (by simp)).2.2 with z |z |z
      .rw [qa]at z;cases z.1
      .exact z.2
      .rw [qa]at z;cases z.1
     unfold Wk.walked
     dsimp only
     rw[dropLast_concat,getLastD_concat,ek]
     refine wake_shape q0 q3 hq ?_ (λz hz=>?_) (λz hz=>hA z (by simp[hz])) λz hz=>hb.no z (by simp[hz])
     .show Chain 0 (w.wk++[_]++q::r.reverse) m
      rw[reverse_append]at hc
      rw[append_assoc]
      exact chain_same hc rfl rfl
     .rcases mem_append.mp hz with y |y
      .exact S.wk z y
      .rw [mem_singleton.mp y];exact hw
    .rw [if_neg c1]
     unfold Wk.walked
     dsimp only
     rw[ek]
     exact put _ rfl rfl hw
theorem wk_kinds {m:Int}{k:Nat}{w:Wk}(S:Sh0 m k w):∀p∈w.wk,p.a=0∨p.a=3:=λp hp=>by
 rcases (S.wk p hp).2.2 with z |z
 .exact .inr z.1
 .exact .inl z.1
structure Shp (m:Int) (w:Wk):Prop where
 sh:Sh0 m w.pl.toNat w
 ne:0<=w.pl->w.ah≠[]
 wh:w.pl<0->w.pl = -1/\w.ah=[]
theorem turn_shape {m:Int}{k:Nat}{w:Wk}(hm:0<m)(S:Sh0 m k w)(hk:w.pl=k)(ha:w.ah=[]):Shp m w.turn:=by
 have hc:=S.ch
 rw[ha]at hc
 have hc:Chain 0 (w.wk++[]) m:=hc
 rw[append_nil]at hc
 have hne:w.wk≠[]:=λz=>by
  rw[z]at hc
  have:(0:Int)=m:=hc
  omega
 unfold Wk.turn
 split
 .rename_i c
  obtain⟨j,rfl⟩:∃j,k=j+1:=⟨k-1,by omega⟩
  have ej:(w.pl-1).toNat=j:=by omega
  refine⟨?_,λ_=>by simpa using hne,λz=>?_⟩
  .show Sh0 m (w.pl-1).toNat _
   rw[ej]
   refine⟨?_,(λp hp=>by cases hp),λp hp=>?_,?_⟩
   .show Chain 0 ([]++w.wk.reverse.reverse) m
    rw[List.reverse_reverse]
    exact hc
   .have hw:=S.wk p (by simpa using hp)
    refine⟨hw.1,hw.2.1,?_⟩
    rcases hw.2.2 with z |z
    .exact .inl z
    .exact .inr (.inl ⟨.inl z.1,z.2⟩)
   .refine sib_all λz hz=>?_
    rcases wk_kinds S z (by simpa using hz) with y |y<;>rw[y]<;>decide
  .have:w.pl-1<0:=z
   omega
 .rename_i c
  have e0:k=0:=by omega
  subst e0
  refine⟨?_,λz=>?_,λ_=>⟨by show w.pl-1 = -1;omega,ha⟩⟩
  .show Sh0 m (w.pl-1).toNat _
   rw[show (w.pl-1).toNat=0 by omega]
   exact⟨S.ch,S.wk,S.ah,S.sib⟩
  .have:0<=w.pl-1:=z
   omega
theorem rowEnd_shape {m:Int}{k:Nat}{w:Wk}(hm:0<m)(S:Sh0 m k w)(hk:w.pl=k):Shp m w.rowEnd:=by
 unfold Wk.rowEnd
 split
 .rename_i c
  exact turn_shape (w:={w with re:=w.re++[w.us]}) hm ⟨S.ch,S.wk,S.ah,S.sib⟩ hk c
 .rename_i c
  refine⟨by rw[show w.pl.toNat=k by omega];exact S,λ_=>c,λz=>by omega⟩
theorem start_shape {m:Int}(hm:0<m)(n:Nat):Shp m (Wk.turn ⟨n,0,[],[⟨0,0,m,1-2^n,2^n-1⟩],[]⟩):=by
 refine turn_shape (k:=n) hm ⟨⟨rfl,hm,rfl⟩,λp hp=>?_,(λp hp=>by cases hp),λah p e=>?_⟩ rfl rfl
 .rw [mem_singleton.mp hp]
  exact⟨Int.le_refl 0,hm,.inr ⟨rfl,rfl,rfl⟩⟩
 .have:=congrArg List.length e
  simp at this
theorem step_pl {w:Wk}{ah:List Pa}{p:Pa}{b:Bool}:(w.step ah p b).pl=w.pl/\(w.step ah p b).us=w.us+1/\(w.step ah p b).re=w.re:=by
 unfold Wk.step Wk.calm Wk.wake Wk.walked
 repeat (any_goals split)
 all_goals exact⟨rfl,rfl,rfl⟩
def phi (p:Pa):Nat:=if p.a=3∨p.a=2 then 1 else 3*(p.e-p.s).toNat-1
def phis (ps:List Pa):Nat:=(ps.map phi).sum
theorem phis_app (ps qs:List Pa):phis (ps++qs)=phis ps+phis qs:=by simp[phis]
theorem phis_one (p:Pa):phis [p]=phi p:=by simp[phis]
theorem phis_rev (ps:List Pa):phis ps.reverse=phis ps:=by
 induction ps with
 |nil=>rfl
 |cons p ps ih=>rw[List.reverse_cons,phis_app,ih,phis_one];simp[phis];omega
theorem phi_pos {p:Pa}(h:p.s<p.e):1<=phi p:=by
 unfold phi
 split<;>omega
theorem phi_le {p:Pa}(h:p.s<p.e):phi p<=3*(p.e-p.s).toNat:=by
 unfold phi
 split<;>omega
theorem phis_chain:∀{ps:List Pa} {a b:Int},Chain a ps b->(phis ps:Int)<=3*(b-a)
 | [],a,b,h=>by cases (show a=b from h);simp[phis]
 |p::ps,a,b,⟨h1,h2,h3⟩=>by
  have ih:=phis_chain h3
  have hp:=phi_le h2
  have e:phis (p::ps)=phi p+phis ps:=by simp[phis]
  rw[e]
  omega
theorem wake_phi {w:Wk}{q:Pa}(h1:q.s<q.e)(h3:q.a≠3)(h2:q.a≠2):phis (w.wake q).ah+1<=phis w.ah+phi q:=by
 have hq:phi q=3*(q.e-q.s).toNat-1:=by
  unfold phi
  rw[if_neg (by rintro (z |z);exact h3 z;exact h2 z)]
 unfold Wk.wake
 split
 .dsimp only
  rw[phis_app,phis_one,hq]
  show phis w.ah+1+1<=_
  clear h1;omega
 .rename_i c
  dsimp only
  have hm1:q.s<(q.s+q.e) / 2:=by omega
  have hm2:(q.s+q.e) / 2<q.e:=by omega
  generalize (q.s+q.e) / 2=m at hm1 hm2
  have e:phis [(⟨0,m,q.e,q.lo,q.hi⟩:Pa),⟨1,q.s,m,q.lo,q.hi⟩]=(3*(q.e-m).toNat-1)+(3*(m-q.s).toNat-1):=by
   simp[phis,phi]
  rw[phis_app,e,hq]
  omega
theorem step_phi {m:Int}{k:Nat}{w:Wk}{ah:List Pa}{p:Pa}{b:Bool}(S:Sh0 m k w)(e:w.ah=ah++[p]):phis (w.step ah p b).ah+1<=phis w.ah:=by
 have hb:=S.sib ah p e
 obtain⟨h0,h1,_⟩:=S.ah p (by rw[e];simp)
 have hp:=phi_pos h1
 rw[e,phis_app,phis_one]
 unfold Wk.step
 split
 .show phis ah+1<=_;omega
 .rename_i c3
  split
  .show phis ah+1<=_;omega
  .rename_i c2
   split
   .exact wake_phi (w:={w with us:=w.us+1,ah:=ah}) h1 c3 c2
   .unfold Wk.calm
    split
    .rename_i c1
     obtain⟨r,q,rfl,qa,q2,q3,q0⟩:=hb.sib c1
     unfold Wk.walked
     dsimp only
     rw[dropLast_concat,getLastD_concat,phis_app,phis_one]
     refine le_trans (wake_phi q3 (by rw[qa];decide) (by rw[qa];decide)) ?_
     show phis r+phi q<=_
     omega
    .show phis ah+1<=_;omega
def mu (m:Nat)(w:Wk):Nat:=if w.pl<0 then 0 else 3*m*w.pl.toNat+phis w.ah
theorem rowEnd_mu {m k:Nat}{w:Wk}(S:Sh0 m k w)(hk:w.pl=k):mu m w.rowEnd<=3*m*k+phis w.ah:=by
 unfold Wk.rowEnd
 split
 .rename_i c
  unfold Wk.turn
  split
  .rename_i c2
   obtain⟨j,rfl⟩:∃j,k=j+1:=⟨k-1,by have:w.pl-1>=0:=c2;omega⟩
   unfold mu
   dsimp only
   rw[if_neg (by omega),phis_rev,show (w.pl-1).toNat=j by omega]
   have hc:=S.ch
   rw[c]at hc
   have hc:Chain 0 (w.wk++[]) m:=hc
   rw[append_nil]at hc
   have:=phis_chain hc
   have e:3*m*(j+1)=3*m*j+3*m:=by rw[Nat.mul_succ]
   omega
  .rename_i c2
   unfold mu
   dsimp only
   rw[if_pos (by have:¬ w.pl-1>=0:=c2;omega)]
   omega
 .unfold mu
  rw[if_neg (by omega),show w.pl.toNat=k by omega]
  exact Nat.le_refl _
inductive Fol:Wk->List Bool->Wk->Prop
 |nil {w:Wk}:Fol w [] w
 |whole {w:Wk} {b:Bool} {bs:List Bool} (h:w.pl<0):Fol w (b::bs) w
 |step {w v:Wk} {ah:List Pa} {p:Pa} {b:Bool} {bs:List Bool} (h:0<=w.pl) (h5:w.pl<=5000) (hf:w.fits) (e:w.ah=ah++[p]) (h1:p.a=1->b=false->ah≠[]) (t:Fol ((w.step ah p b).rowEnd) bs v):Fol w (b::bs) v
def Pa.sp (p:Pa):D:=.tup [.int p.lo,.int p.hi]
def spansOf (w:Wk):List D:=(w.wk++w.ah.reverse).flatMap λp=>List.replicate (p.e-p.s).toNat p.sp
def Bt (d:D)(bs:List Bool):Prop:=d = .str (strOf bs)∨d = .lst (bs.map λb=>.str (bitS b))
def sp_Walk_follow:DMo:=λts ds P=>∃(w v:Wk) (bs:List Bool) (d:D),ts=w.ts/\ds=[d]/\Bt d bs/\Fol w bs v/\P v.ts
def sp_Walk_spans:DSp:=λds P=>∃w:Wk,ds=[.obj "Walk" ns_Walk (OV.vals w.ts)]/\w.wk.length<400000/\w.ah.length<400000/\(spansOf w).length<=900000/\(∀p∈w.wk++w.ah,0<=p.e-p.s/\p.e-p.s<=100000)/\P (.nl ((spansOf w).map .fz))
def sp_followed:DSp:=λds P=>∃(bs:List Bool) (d:D) (m:Int) (n:Nat) (v:Wk),ds=[d,.int m,.int n]/\Bt d bs/\n<=5000/\Fol (Wk.turn ⟨n,0,[],[⟨0,0,m,1-2^n,2^n-1⟩],[]⟩) bs v/\P (.ob none "Walk" ns_Walk v.ts)
abbrev s_Walk_follow:Stmt:=inClass (top 34) 5
theorem sc_Walk_follow:FnScope ["self","bits","bit"] ["self","bits"] (defScope s_Walk_follow):=by walk_at "S"
abbrev s_Walk_spans:Stmt:=inClass (top 34) 4
theorem sc_Walk_spans:FnScope ["self","found","part"] ["self"] (defScope s_Walk_spans):=by walk_at "S"
abbrev s_followed:Stmt:=top 36
theorem sc_followed:FnScope ["bits","many","planes","walk"] ["bits","many","planes"] (defScope s_followed):=by walk_at "S"
theorem ok_Walk_follow {f:Addr}{fd:FuncData}(Df:MetAt K "Walk" "follow" "Walk.follow" s_Walk_follow f fd)(B:BltV mg)(KV:KitV K)(CV_Walk:ClsV K "Walk" ns_Walk)(CV_Reader:ClsV K "Reader" ns_Reader)(c_Walk_is_whole:CalM P w K mg base "Walk" "is_whole" 1 ["self"] (spV K 1 sp_Walk_is_whole))(c_Walk_take:CalM P w K mg base "Walk" "take" 4 ["self","told"] (spM K 2 "Walk" ns_Walk sp_Walk_take)):
  CalM P w K mg base "Walk" "follow" 5 ["self","bits"] (spM K 2 "Walk" ns_Walk sp_Walk_follow):=by
 refine CalM.of Df sc_Walk_follow (by walk_at "b") rfl (λc A o s H E hr=>⟨_,_,(pss_one (ps_for PassesOwn.never rfl (pi_any (pv 1)) (pg_name (i:=2) sc_Walk_follow.nd rfl (Or.inl rfl)) (pss_cons (ps_if (pt_val (pe_metN0 c_Walk_is_whole (hr.mono (by decide)) (pv 0))) (pss_one ps_break) pss_nil)
   (pss_one (ps_expr (pe_metN c_Walk_take (hr.mono (by decide)) (pv 0) (pa_cons (pe_cmpR op_eq (pv 2) pe_str (nomark _)) pa_nil))))))),
  (sS_for (sI_any sF_var) sG_name (sS_seq (sS_if (sT_b (sF_o (sO_methP CV_Walk (by decide +kernel) sB_var sAB_nil))) sS_break sS_next)
   (sS_meth CV_Walk (by decide +kernel) (sAF_cons (sF_op oS_eq sB_var (sB_f sF_str)) sAF_nil)))),?_⟩)
 rintro a ts ds Pr ⟨w,v,bs,d,rfl,rfl,hd,hF,h⟩
 rcases hd with rfl |rfl
 fin2
 refine .inl ?_
 rw[sgns_strOf,map_map]
 rotate_left
 fin2
 refine .inr ?_
 all_goals
  refine⟨λi G=>∃(w':Wk) (o1 o:Option Sl),Fol w' (bs.drop i) v/\G=[some (.own (.ob (some a) "Walk" ns_Walk w'.ts)),o1,o],⟨w,_,none,hF,rfl⟩,?_,?_⟩
  .rintro i d G hd ⟨w',o1,o,hF',rfl⟩
   obtain⟨b,hb,rfl⟩:=mget hd
   have hi:=(List.getElem?_eq_some_iff.mp hb).1
   have hdr:bs.drop i=b::bs.drop (i+1):=by
    rw[List.drop_eq_getElem_cons hi]
    rw[getElem?_eq_getElem hi]at hb
    rw[Option.some.inj hb]
   rw[hdr]at hF'
   simp only[gN,Function.comp,set_cons_succ,set_cons_zero]
   gn_on
   refine⟨w',by rw[OV.vals_eq],?_⟩
   fin2
   cases hF' with
   |whole hl=>
    rw[if_pos hl]
    exact h
   | @step _ _ ah p _ _ h0 h5 hf e h1 t=>
    rw[if_neg (by omega)]
    gp_on
    fin2
    refine⟨w',ah,p,b,rfl,hf,by rw[bitS_one],e,h0,h5,h1,?_⟩
    exact⟨_,_,_,t,rfl⟩
  .rintro G ⟨w',o1,o,hF',rfl⟩
   rw[length_map,List.drop_length]at hF'
   cases hF'
   exact⟨_,rfl,h⟩
theorem ok_Walk_spans {f:Addr}{fd:FuncData}(Df:MetAt K "Walk" "spans" "Walk.spans" s_Walk_spans f fd)(B:BltV mg)(KV:KitV K)(CV_Walk:ClsV K "Walk" ns_Walk)(CV_Reader:ClsV K "Reader" ns_Reader)(g_SPAN:∃t,mg "SPAN"=some (.int 3 t))(g_END:∃t,mg "END"=some (.int 2 t))(g_START:∃t,mg "START"=some (.int 1 t)):
  CalM P w K mg base "Walk" "spans" 1 ["self"] (spV K 1 sp_Walk_spans):=by
 refine CalP.of Df sc_Walk_spans (by walk_at "b") rfl (λc A o s H E hr=>⟨_,_,(pss_cons (ps_set (i:=1) sc_Walk_spans.nd rfl (Or.inl rfl) (pe_lstS pa_nil))
   (pss_cons (ps_for PassesOwn.never rfl (pi_list (pe_op op_catS (pe_fld (pv 0) rfl) (pe_listRev rfl B.list rfl B.reversed (pa_cons (pe_fld (pv 0) rfl) pa_nil)))) (pg_name (i:=2) sc_Walk_spans.nd rfl (Or.inl rfl)) (pss_one (ps_expr (pe_bm plainAttrs_list PySem.F.slot_list_extend PySem.F.type_list_extend mt_extendS (pv 1) (pa_cons (pe_op op_rep (pe_lstS (pa_cons (pe_ix ix_tup (pv 2) (pe_globI (by rfl) g_SPAN) (λ_ _=>rfl)) pa_nil)) (pe_op op_sub (pe_ix ix_tup (pv 2) (pe_globI (by rfl) g_END) (λ_ _=>rfl)) (pe_ix ix_tup (pv 2) (pe_globI (by rfl) g_START) (λ_ _=>rfl)))) pa_nil)))))
   (pss_one (ps_ret (pv 1))))),
  (sS_seq (sS_set (sO_lst sAO_nil))
   (sS_seq (sS_for (sI_list (sF_o (sO_catB (sB_fld (j:=3) CV_Walk (by rfl) sB_var) (sB_f (sF_o (sO_listRev (sAB_cons (sB_fld (j:=4) CV_Walk (by rfl) sB_var) sAB_nil))))))) sG_name (sS_ext (sF_o (sO_rep1 (sO_lst (sAO_cons (sO_f (sF_opF oF_ixT sF_var sF_int)) sAO_nil)) (sB_f (sF_op oS_i0 (sB_op (OpF.b oF_ixT) sB_var (sB_f sF_int)) (sB_op (OpF.b oF_ixT) sB_var (sB_f sF_int))))))))
   sS_retV)),?_⟩)
 rintro ds Pr ⟨w,rfl,h1,h2,h3,h4,h⟩
 unfold Wk.ts
 gn_on
 gp_on
 gn_on
 rw[pa_vals,pa_vals]
 have vf:∀l:List D,List.map OV.val (List.map OV.fz l)=l:=λl=>by
  rw[map_map]
  exact map_id l
 simp only[vf]
 rw[<- map_reverse,<- map_append]
 refine⟨pa_lfs _,by omega,pa_lfs _,pa_lfs _,by simp;omega,?_⟩
 have h4':∀p∈w.wk++w.ah.reverse,0<=p.e-p.s/\p.e-p.s<=100000:=λp hp=>h4 p (by simpa using hp)
 unfold spansOf at h h3
 generalize w.wk++w.ah.reverse=ps at h h3 h4'
 refine⟨λi G=>∃(o:Option Sl),G=[some (Sl.own (OV.fz (D.obj (Str.ofString "Walk") ns_Walk [D.int w.pl,D.int w.us,D.lst (List.map D.int w.re),D.lst (List.map Pa.d w.wk),D.lst (List.map Pa.d w.ah)]))),some (Sl.own (OV.nl (((ps.take i).flatMap λp=>List.replicate (p.e-p.s).toNat p.sp).map .fz))),o],⟨none,rfl⟩,?_,?_⟩
 .rintro i d G hd ⟨o,rfl⟩
  obtain⟨p,hp,rfl⟩:=mget hd
  have hi:=(List.getElem?_eq_some_iff.mp hp).1
  rw[pa_eta]
  simp only[gN,set_cons_succ,set_cons_zero]
  fin2
  have hb:=h4' p (mem_of_getElem? hp)
  have hle:((ps.take i).flatMap λp=>List.replicate (p.e-p.s).toNat p.sp).length<=900000:=by
   refine le_trans ?_ h3
   rw[<- take_append_drop i ps,List.flatMap_append,length_append]
   simp
  refine⟨⟨hb.1,by omega⟩,by rw[length_replicate];(clear h1 h2;omega),some (Sl.own (OV.fz (D.tup [D.int p.a,D.int p.s,D.int p.e,D.tup [D.int p.lo,D.int p.hi]]))),?_⟩
  have ht:ps.take (i+1)=ps.take i++[p]:=by rw[List.take_add_one,hp];rfl
  rw[ht,List.flatMap_append,map_append,map_replicate]
  simp only[List.flatMap_cons,List.flatMap_nil,append_nil,map_replicate]
  rfl
 .rintro G ⟨o,rfl⟩
  gp_on
  fin2
  rw[take_length]
  exact h
theorem ok_followed {f:Addr}{fd:FuncData}(Df:DefAt K mg "followed" s_followed f fd)(B:BltV mg)(KV:KitV K)(CV_Walk:ClsV K "Walk" ns_Walk)(CV_Reader:ClsV K "Reader" ns_Reader)(c_Walk___init__:CalK P w K mg base "Walk" 2 ["self","many","planes"] (spM K 3 "Walk" ns_Walk sp_Walk___init__))(c_Walk_follow:CalM P w K mg base "Walk" "follow" 5 ["self","bits"] (spM K 2 "Walk" ns_Walk sp_Walk_follow)):
  Cal P w K mg base "followed" 6 ["bits","many","planes"] (spV K 3 sp_followed):=by
 refine CalV.of Df sc_followed (by walk_at "b") rfl (λc A o s H E hr=>⟨_,_,(pss_cons (ps_set (i:=3) sc_followed.nd rfl (Or.inl rfl) (pe_makN c_Walk___init__ (hr.mono (by decide)) (by rfl) (pa_cons (pv 1) (pa_cons (pv 2) pa_nil))))
   (pss_cons (ps_expr (pe_metN c_Walk_follow (hr.mono (by decide)) (pv 3) (pa_cons (pv 0) pa_nil)))
   (pss_one (ps_ret (pv 3))))),
  (sS_seq (sS_set (sO_make CV_Walk (sAF_cons sF_var (sAF_cons sF_var sAF_nil))))
   (sS_seq (sS_meth CV_Walk (by decide +kernel) (sAF_cons sF_var sAF_nil))
   sS_retV)),?_⟩)
 rintro ds Pr ⟨bs,d,m,n,v,rfl,hd,hn,hF,h⟩
 gn_on
 refine⟨m,n,rfl,rfl,hn,?_⟩
 gp_on
 gn_on
 refine⟨_,v,bs,d,rfl,rfl,hd,hF,?_⟩
 gp_on
 fin2
 exact h
def sp_read:DSp:=λds P=>∃(bs:List Bool) (m:Int) (n:Nat) (v:Wk),ds=[.str (strOf bs),.int m,.int n]/\n<=5000/\Fol (Wk.turn ⟨n,0,[],[⟨0,0,m,1-2^n,2^n-1⟩],[]⟩) bs v/\v.wk.length<400000/\v.ah.length<400000/\(spansOf v).length<=900000/\(∀p∈v.wk++v.ah,0<=p.e-p.s/\p.e-p.s<=100000)/\
 P (.fz (.tup [.lst (spansOf v),.int v.us,.bl (decide (v.pl<0))]))
abbrev s_read:Stmt:=top 37
theorem sc_read:FnScope ["bits","many","planes","walk"] ["bits","many","planes"] (defScope s_read):=by walk_at "S"
theorem ok_read {f:Addr}{fd:FuncData}(Df:DefAt K mg "read" s_read f fd)(B:BltV mg)(KV:KitV K)(CV_Walk:ClsV K "Walk" ns_Walk)(CV_Reader:ClsV K "Reader" ns_Reader)(c_followed:Cal P w K mg base "followed" 6 ["bits","many","planes"] (spV K 3 sp_followed))(c_Walk_spans:CalM P w K mg base "Walk" "spans" 1 ["self"] (spV K 1 sp_Walk_spans))(c_Walk_is_whole:CalM P w K mg base "Walk" "is_whole" 1 ["self"] (spV K 1 sp_Walk_is_whole)):
  Cal P w K mg base "read" 7 ["bits","many","planes"] (spV K 3 sp_read):=by
 refine CalV.of Df sc_read (by walk_at "b") rfl (λc A o s H E hr=>⟨_,_,(pss_cons (ps_set (i:=3) sc_read.nd rfl (Or.inl rfl) (pe_cal c_followed (hr.mono (by decide)) (by rfl) (pa_cons (pv 0) (pa_cons (pv 1) (pa_cons (pv 2) pa_nil)))))
   (pss_one (ps_ret (pe_tupS (pa_cons (pe_metN0 c_Walk_spans (hr.mono (by decide)) (pv 3)) (pa_cons (pe_fld (pv 3) rfl) (pa_cons (pe_metN0 c_Walk_is_whole (hr.mono (by decide)) (pv 3)) pa_nil))))))),
  (sS_seq (sS_set (sO_call (sAF_cons sF_var (sAF_cons sF_var (sAF_cons sF_var sAF_nil)))))
   (sS_ret (sO_f (sF_tup (sAF_cons (sF_o (sO_methP CV_Walk (by decide +kernel) sB_var sAB_nil)) (sAF_cons (sF_lf (sB_fld (j:=1) CV_Walk (by rfl) sB_var)) (sAF_cons (sF_o (sO_methP CV_Walk (by decide +kernel) sB_var sAB_nil)) sAF_nil))))))),?_⟩)
 rintro ds Pr ⟨bs,m,n,v,rfl,hn,hF,h1,h2,h3,h4,h⟩
 gn_on
 refine⟨bs,_,m,n,v,rfl,.inl rfl,hn,hF,?_⟩
 gp_on
 fin2
 refine⟨v,by rw[OV.vals_eq],h1,h2,h3,h4,?_⟩
 have hlf:OV.lf (.nl ((spansOf v).map OV.fz))=true:=by
  show OV.lfs _=true
  rw[OV.lfs_eq,all_eq_true]
  intro t ht
  obtain⟨d,hd,rfl⟩:=List.mem_map.mp ht
  unfold spansOf at hd
  obtain⟨p,_,hp⟩:=List.mem_flatMap.mp hd
  rw[(mem_replicate.mp hp).2]
  simp[Pa.sp,OV.lf,D.lf,D.lfs]
 refine⟨hlf,_,rfl,rfl,v,by rw[OV.vals_eq],rfl,?_⟩
 have ev:OV.val (.nl ((spansOf v).map OV.fz)) = .lst (spansOf v):=by
  show D.lst (OV.vals _)=_
  rw[fzs_val]
 rw[ev]
 exact h
theorem rowEnd_us {w:Wk}:w.rowEnd.us=w.us/\w.rowEnd.re.length<=w.re.length+1/\w.rowEnd.pl<=w.pl/\(w.rowEnd.re.length:Int)+w.rowEnd.pl<=w.re.length+w.pl:=by
 unfold Wk.rowEnd
 split
 .unfold Wk.turn
  split
  .refine ⟨rfl,by simp,by show w.pl-1<=w.pl;omega,?_⟩
   show (((w.re++[w.us]).length:Nat):Int)+(w.pl-1)<=_
   rw[length_append,length_singleton];omega
  .refine ⟨rfl,by simp,by show w.pl-1<=w.pl;omega,?_⟩
   show (((w.re++[w.us]).length:Nat):Int)+(w.pl-1)<=_
   rw[length_append,length_singleton];omega
 .exact ⟨rfl,by omega,Int.le_refl _,Int.le_refl _⟩
theorem shp_fits {m:Nat}{w:Wk}(S:Shp m w)(hm:m<400000)(hr:w.re.length<900000):w.fits:=by
 have:=chain_le S.sh.ch
 rw[length_append,length_reverse]at this
 exact⟨hr,by omega,by omega⟩
theorem chain_len:∀{ps:List Pa} {a b:Int},Chain a ps b->(ps.flatMap λp=>List.replicate (p.e-p.s).toNat p.sp).length=(b-a).toNat
 | [],a,b,h=>by cases (show a=b from h);simp
 |p::ps,a,b,⟨h1,h2,h3⟩=>by
  have hle:=chain_le h3
  rw[List.flatMap_cons,length_append,chain_len h3,length_replicate]
  omega
theorem shp_small {m:Nat}{w:Wk}(S:Shp m w)(hm:m<=100000):w.wk.length<400000/\w.ah.length<400000/\(spansOf w).length=m/\∀p∈w.wk++w.ah,0<=p.e-p.s/\p.e-p.s<=100000:=by
 have h1:=chain_le S.sh.ch
 rw[length_append,length_reverse]at h1
 refine⟨by omega,by omega,by unfold spansOf;rw[chain_len S.sh.ch];omega,λp hp=>?_⟩
 have:=chain_mem (p:=p) S.sh.ch (by simpa using hp)
 omega
theorem start_facts (m n:Nat):(Wk.turn ⟨n,0,[],[⟨0,0,m,1-2^n,2^n-1⟩],[]⟩).pl=n-1/\(Wk.turn ⟨n,0,[],[⟨0,0,m,1-2^n,2^n-1⟩],[]⟩).re=[]/\(Wk.turn ⟨n,0,[],[⟨0,0,m,1-2^n,2^n-1⟩],[]⟩).us=0/\mu m (Wk.turn ⟨n,0,[],[⟨0,0,m,1-2^n,2^n-1⟩],[]⟩)<=3*m*n:=by
 unfold Wk.turn
 split
 .rename_i c
  refine⟨rfl,rfl,rfl,?_⟩
  have c:(n:Int)-1>=0:=c
  obtain⟨k,rfl⟩:∃k,n=k+1:=⟨n-1,by omega⟩
  unfold mu
  rw[if_neg (by show ¬ ((k+1:Nat):Int)-1<0;omega)]
  show 3*m*(((k+1:Nat):Int)-1).toNat+phis [_]<=_
  rw[phis_one,show (((k+1:Nat):Int)-1).toNat=k by omega]
  unfold phi
  rw[if_neg (by simp)]
  show 3*m*k+(3*((m:Int)-0).toNat-1)<=3*m*(k+1)
  rw[Nat.mul_add]
  omega
 .rename_i c
  have c:¬ (n:Int)-1>=0:=c
  refine⟨rfl,rfl,rfl,?_⟩
  unfold mu
  rw[if_pos (by show (n:Int)-1<0;omega)]
  exact zero_le _
theorem mu_pos {m:Nat}{w:Wk}(S:Shp m w)(h:0<=w.pl):1<=mu m w:=by
 obtain⟨ah,p,e⟩:∃ah p,w.ah=ah++[p]:=⟨_,_,(List.dropLast_concat_getLast (S.ne h)).symm⟩
 have:=step_phi (b:=true) S.sh e
 unfold mu
 rw[if_neg (by omega)]
 omega
theorem fol_trans {w v u:Wk}{as bs:List Bool}(h:Fol w as v)(h2:Fol v bs u):Fol w (as++bs) u:=by
 induction h with
 |nil=>exact h2
 |whole h=>
  cases h2 with
  |nil=>exact .whole h
  |whole _=>exact .whole h
  |step h0=>omega
 |step h h5 hf e h1 t ih=>exact .step h h5 hf e h1 (ih h2)
theorem fol_run {m:Nat}(hm0:0<m)(hm:m<400000):∀(bs:List Bool) (w:Wk),Shp m w->w.pl<=5000->(w.re.length:Int)+w.pl<800000->
  ∃(v:Wk) (u:Nat),Fol w bs v/\Shp m v/\u<=bs.length/\v.us=w.us+u/\mu m v+u<=mu m w/\(0<=v.pl->u=bs.length)/\(0<=w.pl->v.pl<0->1<=u)/\v.pl<=w.pl/\(v.re.length:Int)+v.pl<=w.re.length+w.pl/\
   ∀xs:List Int,xs.length=m->CompW xs v->CompW xs w/\∀ts,Tell xs v ts->Tell xs w (bs.take u++ts)
 | [],w,S,h5,hr=>⟨w,0,.nil,S,Nat.le_refl _,by simp,by omega,(λ_=>rfl),(λa b=>by omega),Int.le_refl _,Int.le_refl _,λxs hx C=>⟨C,λts t=>t⟩⟩
 |b :: bs,w,S,h5,hr=>by
  by_cases hp:w.pl<0
  .exact ⟨w,0,.whole hp,S,zero_le _,by simp,by omega,(λz=>by omega),(λa _=>by omega),Int.le_refl _,Int.le_refl _,λxs hx C=>⟨C,λts t=>t⟩⟩
  .obtain ⟨k,hk⟩:∃k:Nat,w.pl=k:=⟨w.pl.toNat,by omega⟩
   have ek:w.pl.toNat=k:=by omega
   obtain⟨ah,p,e⟩:∃ah p,w.ah=ah++[p]:=⟨_,_,(List.dropLast_concat_getLast (S.ne (by omega))).symm⟩
   have S0:Sh0 m k w:=ek▸S.sh
   have hA:=S0.ah p (by rw[e];simp)
   have hmem:=chain_mem (p:=p) S0.ch (by rw[e];simp)
   have hB:=S0.sib ah p e
   have S1:=step_shape (b:=b) S0 hk e
   obtain⟨q1,q2,q3⟩:=step_pl (w:=w) (ah:=ah) (p:=p) (b:=b)
   have hk1:(w.step ah p b).pl=k:=by rw[q1];exact hk
   have S2:=rowEnd_shape (by omega) S1 hk1
   obtain⟨r1,r2,r3,r4⟩:=rowEnd_us (w:=w.step ah p b)
   have hmu:=rowEnd_mu S1 hk1
   have hphi:=step_phi (b:=b) S0 e
   have hw:mu m w=3*m*k+phis w.ah:=by unfold mu;rw[if_neg hp,ek]
   rw[q1]at r3
   rw[q1,q3]at r4
   obtain⟨v,u,t1,t2,t3,t4,t5,t6,t7,t8,t9,t10⟩:=fol_run hm0 hm bs _ S2 (by (clear hm0 hm hmem r2 hmu hw;omega)) (by omega)
   have hf:=shp_fits S hm (by omega)
   have hone:p.a=1->b=false->ah≠[]:=λz _=>by
    obtain⟨r,q,er,_⟩:=hB.sib z
    rw[er];simp
   refine⟨v,u+1,.step (by omega) h5 hf e hone t1,t2,by rw[length_cons];omega,by rw[t4,r1,q2];omega,by omega,(λz=>by rw[length_cons,t6 z]),(λ_ _=>by omega),by (clear hm0 hm hmem hmu hw t3 t4 t5;omega),by (clear hm0 hm hmem hmu hw t3 t4 t5;omega),λxs hx C=>?_⟩
   obtain⟨c1,c2⟩:=t10 xs hx C
   have C1:Comp xs k (w.step ah p b):=by
    have:=(rowEnd_iff (by rw[hk1];omega) (wk_kinds S1)).mp c1
    unfold CompW at this
    rw[hk1,toNat_natCast]at this
    exact this
   obtain⟨C0,hb⟩:=(step_iff hk e hA hB (by rw[hx];exact hmem.2.2)).mp C1
   refine⟨by unfold CompW;rw[ek];exact C0,λts t=>?_⟩
   have:=c2 ts t
   rw[List.take_succ_cons,cons_append]
   rw[hb]at this hone ⊢
   have T:=Tell.step (xs:=xs) (w:=w) (ah:=ah) (p:=p) (bs:=bs.take u++ts) (by omega) h5 hf e ⟨hmem.1,hmem.2.1,by rw[hx];exact hmem.2.2⟩ (by rw[hk];exact hone) (by rw[hk];exact this)
   rw[hk]at T
   exact T
def spansQ (w:Wk):List (Int×Int):=(w.wk++w.ah.reverse).flatMap λp=>List.replicate (p.e-p.s).toNat (p.lo,p.hi)
def near (p:Pa):Int:=if p.lo > 0 then p.lo else p.hi
theorem fol_det {w v v':Wk}{bs:List Bool}(h:Fol w bs v)(h2:Fol w bs v'):v=v':=by
 induction h with
 |nil=>cases h2;rfl
 |whole h=>
  cases h2 with
  |whole _=>rfl
  |step h0=>omega
 |step h h5 hf e h1 t ih=>
  cases h2 with
  |whole h0=>omega
  |step _ _ _ e' _ t'=>
   rw[e]at e'
   obtain⟨rfl,e2⟩:=append_inj' e' rfl
   cases e2
   exact ih t'
def known (x:Int)(k:Nat):Int×Int:=
 if (x.natAbs:Int) / 2^k*2^k=0 then (1-2^k,2^k-1) else if x<0 then (1-(x.natAbs:Int) / 2^k*2^k-2^k,0-(x.natAbs:Int) / 2^k*2^k) else ((x.natAbs:Int) / 2^k*2^k,(x.natAbs:Int) / 2^k*2^k+2^k-1)
theorem cut_any {m:Nat}(hm0:0<m)(hm:m<400000){w v:Wk}{bs:List Bool}(F:Fol w bs v)(S:Shp m w)(h5:w.pl<=5000)(hr:(w.re.length:Int)+w.pl<800000)(h0:w.us=0){c:Nat}(hc:c<=bs.length):
  ∃u,Fol w (bs.take c) u/\Shp m u/\Fol u (bs.drop c) v/\Shp m v/\u.us=min (c:Int) v.us/\decide (u.pl<0)=(decide (v.pl<0) && decide (v.us<=(c:Int)))/\u.pl<=w.pl/\(u.re.length:Int)+u.pl<=w.re.length+w.pl:=by
 obtain⟨u,k,a1,a2,a3,a4,a5,a6,a7,a8,a9,a10⟩:=fol_run hm0 hm (bs.take c) w S h5 hr
 obtain⟨v2,k2,b1,b2,b3,b4,b5,b6,b7,b8,b9,b10⟩:=fol_run hm0 hm (bs.drop c) u a2 (by omega) (by omega)
 have F2:=fol_trans a1 b1
 rw[take_append_drop]at F2
 have e:=fol_det F F2
 subst e
 rw[length_take,min_eq_left hc]at a3 a6
 have hk2:u.pl<0->k2=0:=λz=>by
  have:mu m u=0:=by unfold mu;rw[if_pos z]
  omega
 refine⟨u,a1,a2,b1,b2,?_,?_,a8,a9⟩
 .by_cases z:u.pl<0
  .have:=hk2 z;(clear hm0 hm hc a5 b3 b5;omega)
  .have:=a6 (by omega);(clear hm0 hm hc a5 b3 b5;omega)
 .rw [<- Bool.decide_and]
  refine decide_eq_decide.mpr ⟨λz=>?_,λz=>?_⟩
  .have:=hk2 z
   exact⟨by (clear hm0 hm hc a3 a4 a5 b3 b4 b5 b9 this;omega),by (clear hm0 hm hc a5 b3 b5;omega)⟩
  .by_cases y:u.pl<0
   .exact y
   .have:=a6 (by omega)
    have:=b7 (by omega) z.1
    clear hm0 hm hc a5 b3 b5;omega
theorem cut_more {m:Nat}(hm0:0<m)(hm:m<400000){w u v:Wk}{bs:List Bool}{c d:Nat}(hcd:c<=d)(F:Fol w (bs.take c) u)(S:Shp m u)(h5:u.pl<=5000)(hr:(u.re.length:Int)+u.pl<800000)(F2:Fol w (bs.take d) v):Fol u ((bs.take d).drop c) v:=by
 obtain⟨v2,k2,b1,_⟩:=fol_run hm0 hm ((bs.take d).drop c) u S h5 hr
 have F3:=fol_trans F b1
 have e:bs.take c++(bs.take d).drop c=bs.take d:=by
  have:=take_append_drop c (bs.take d)
  rw[List.take_take,min_eq_left hcd]at this
  exact this
 rw[e]at F3
 rw[fol_det F2 F3]
 exact b1
structure Lf where
 h:Int
 l:Int
 r:Int
 a:Int
 s:Int
structure Lf.Ok (f:Lf):Prop where
 h:f.h=0∨f.h=1
 l : -8<=f.l/\f.l<=8
 r : -8<=f.r/\f.r<=8
 a : -64<=f.a/\f.a<=64
 s:0<=f.s/\f.s<=8
abbrev Sp2:=Int×Int
def spD (s:Sp2):D:=.tup [.int s.1,.int s.2]
theorem lfs_fzS {xs:List Sp2}:OV.lfs (xs.map λs=>OV.fz (spD s))=true:=by
 rw[OV.lfs_eq];simp[OV.lf,D.lf,D.lfs,spD]
theorem spans_Q (u:Wk):spansOf u=(spansQ u).map spD:=by
 unfold spansOf spansQ
 rw[List.map_flatMap]
 simp only[map_replicate]
 rfl
def lfD (f:Lf):D:=.tup [.int f.h,.int f.l,.int f.r,.int f.a,.int f.s]
def ladD (fs:List Lf):D:=.tup (fs.map lfD)
def numD:D->Bool
 | .int _=>true
 |_=>false
def rowD (w:Int):D->Bool
 | .lst xs=>decide ((xs.length:Int)=w) && xs.all numD
 |_=>false
def sizD (n:Nat):Bool:=decide (1<=n) && decide (n<=64)
def picD:D->Bool
 | .lst (.lst r::rs)=>sizD (rs.length+1) && sizD r.length && (D.lst r::rs).all (rowD r.length)
 |_=>false
def knD:D->Bool
 | .ty _=>false
 | .fn _=>false
 | .exc _=>false
 | .obj _ _ _=>false
 |_=>true
abbrev s_is_number:Stmt:=top 13
theorem sc_is_number:FnScope ["thing"] ["thing"] (defScope s_is_number):=by walk_at "S"
def sp_is_number:DSp:=λds P=>∃d,ds=[d]/\knD d=true/\P (.fz (.bl (numD d)))
theorem ok_is_number {f:Addr}{fd:FuncData}(Df:DefAt K mg "is_number" s_is_number f fd)(B:BltV mg)(KV:KitV K)(CV_Walk:ClsV K "Walk" ns_Walk)(CV_Reader:ClsV K "Reader" ns_Reader):
  Cal P w K mg base "is_number" 1 ["thing"] (spV K 1 sp_is_number):=by
 refine CalV.of Df sc_is_number (by walk_at "b") rfl (λc A o s H E hr=>⟨_,_,(pss_one (ps_ret (pe_and (pe_callB call_isiD (by rfl) B.isinstance boot_isinstance (pa_cons (pv 0) (pa_cons (pe_bltn (v:=.ty "int") (by rfl) B.int PyProof.Rows.boot_int (by rfl)) pa_nil))) (pe_one (pe_not (pe_callB call_isiD (by rfl) B.isinstance boot_isinstance (pa_cons (pv 0) (pa_cons (pe_bltn (v:=.ty "bool") (by rfl) B.bool PyProof.Rows.boot_bool (by rfl)) pa_nil)))))))),
  (sS_ret (sO_f (sF_andV (sF_cb (cS_isi KV) (sAB_cons sB_var (sAB_cons (sB_f sF_ty) sAB_nil))) (sF_notV (sF_cb (cS_isi KV) (sAB_cons sB_var (sAB_cons (sB_f sF_ty) sAB_nil))))))),?_⟩)
 rintro ds Pr ⟨d,rfl,hk,k⟩
 cases d<;>first | (simp[knD]at hk;done) | (fin2;exact k)
abbrev s_holds:Stmt:=top 15
theorem sc_holds:FnScope ["one","number"] ["one","number"] (defScope s_holds):=by walk_at "S"
def sp_holds:DSp:=λds P=>∃a b n:Int,ds=[.tup [.int a,.int b],.int n]/\P (.fz (.bl (decide (a<=n) && decide (n<=b))))
theorem ok_holds {f:Addr}{fd:FuncData}(Df:DefAt K mg "holds" s_holds f fd)(B:BltV mg)(KV:KitV K)(CV_Walk:ClsV K "Walk" ns_Walk)(CV_Reader:ClsV K "Reader" ns_Reader):
  Cal P w K mg base "holds" 1 ["one","number"] (spV K 2 sp_holds):=by
 refine CalV.of Df sc_holds (by walk_at "b") rfl (λc A o s H E hr=>⟨_,_,(pss_one (ps_ret (pe_chain op_le op_le (pe_ix ix_tup (pv 0) pe_int (λ_ _=>rfl)) (pv 1) (pe_ix ix_tup (pv 0) pe_int (λ_ _=>rfl))))),
  (sS_ret (sO_f (sF_chain oS_b0 oS_b0 (sB_op (OpF.b oF_ixT) sB_var (sB_f sF_int)) sB_var (sB_op (OpF.b oF_ixT) sB_var (sB_f sF_int))))),?_⟩)
 rintro ds Pr ⟨a,b,n,rfl,k⟩
 fin2
 by_cases h:a<=n
 .rw [if_pos h]
  rw[decide_eq_true h,Bool.true_and]at k
  exact k
 .rw [if_neg h]
  rw[decide_eq_false h,Bool.false_and]at k
  exact k
def sp_is_lift:DSp:=λds P=>∃f:Lf,ds=[lfD f]/\f.Ok/\P (.fz (.bl true))
def sp_is_ladder:DSp:=λds P=>∃fs:List Lf,ds=[ladD fs]/\fs.length<=6/\(∀f∈fs,f.Ok)/\P (.fz (.bl true))
def sp_is_part:DSp:=λds P=>∃n at':Nat,ds=[.int n,.int at']/\((at'=0/\1<=n/\n<=64)∨(at'=1/\1<=n/\n<=64)∨(at'=2/\n<=6)∨(at'=3/\n<=4000))/\P (.fz (.bl true))
abbrev s_is_lift:Stmt:=top 19
theorem sc_is_lift:FnScope ["thing"] ["thing"] (defScope s_is_lift):=by walk_at "S"
abbrev s_is_ladder:Stmt:=top 20
theorem sc_is_ladder:FnScope ["thing"] ["thing"] (defScope s_is_ladder):=by walk_at "S"
abbrev s_is_part:Stmt:=top 44
theorem sc_is_part:FnScope ["thing","at"] ["thing","at"] (defScope s_is_part):=by walk_at "S"
def trD (q:Int×Int×Int):D:=.tup [.int q.1,.tup [.int q.2.1,.int q.2.2]]
theorem ok_is_lift {f:Addr}{fd:FuncData}(Df:DefAt K mg "is_lift" s_is_lift f fd)(B:BltV mg)(KV:KitV K)(CV_Walk:ClsV K "Walk" ns_Walk)(CV_Reader:ClsV K "Reader" ns_Reader)(g_PART_SPANS:TupC K mg "PART_SPANS" (D.tup [.tup [.int 0,.int 1],.tup [.int (-8),.int 8],.tup [.int (-8),.int 8],.tup [.int (-64),.int 64],.tup [.int 0,.int 8]]))(c_is_number:Cal P w K mg base "is_number" 1 ["thing"] (spV K 1 sp_is_number))(c_holds:Cal P w K mg base "holds" 1 ["one","number"] (spV K 2 sp_holds)):
  Cal P w K mg base "is_lift" 2 ["thing"] (spV K 1 sp_is_lift):=by
 refine CalV.of Df sc_is_lift (by walk_at "b") rfl (λc A o s H E hr=>⟨_,_,(pss_cons (ps_if (pw_or (pt_not (pt_val (pe_callB call_isiD (by rfl) B.isinstance boot_isinstance (pa_cons (pv 0) (pa_cons (pe_bltn (v:=.ty "tuple") (by rfl) B.tuple PyProof.Rows.boot_tuple (by rfl)) pa_nil))))) (pw_or1 (pt_cmpR op_ne (pe_callB call_len_seq (by rfl) B.len boot_len (pa_cons (pv 0) pa_nil)) (pe_callB call_len_seq (by rfl) B.len boot_len (pa_cons (pe_globT (by rfl) g_PART_SPANS) pa_nil)) (nomark _)))).pt (pss_one (ps_ret pe_bl)) pss_nil)
   (pss_one (ps_ret (pe_callB (call_allB rfl) (by rfl) B.all boot_all (pa_cons (pe_comp rfl (pi_zipT rfl B.zip (pa_cons (pv 0) (pa_cons (pe_globT (by rfl) g_PART_SPANS) pa_nil))) (show BlkScope (defScope s_is_lift) _ from⟨rfl,by decide +kernel,by decide +kernel,by decide +kernel⟩) (N:=["part","span"]) (ix:=[none,none]) (show CapOf _ _ _ _ from trivial) (λ_ _ _=>(pg_tup (n:=2) rfl (pgs_cons (pg_name (i:=0) (show List.Nodup (["part","span"]:List Str) by decide +kernel) rfl (Or.inl rfl)) (pgs_cons (pg_name (i:=1) (show List.Nodup (["part","span"]:List Str) by decide +kernel) rfl (Or.inl rfl)) pgs_nil)))) (λ_ _ _=>(pe_and (pe_cal c_is_number (hr.mono (by decide)) (by rfl) (pa_cons (pv 0) pa_nil)) (pe_one (pe_cal c_holds (hr.mono (by decide)) (by rfl) (pa_cons (pv 1) (pa_cons (pv 0) pa_nil))))))) pa_nil))))),
  (sS_seq (sS_if (sT_or (sT_not (sT_b (sF_cb (cS_isi KV) (sAB_cons sB_var (sAB_cons (sB_f sF_ty) sAB_nil))))) (sT_test (sF_op oS_ne (sB_f (sF_cb cS_len (sAB_cons sB_var sAB_nil))) (sB_f (sF_cb cS_len (sAB_cons (sB_f sF_gl) sAB_nil)))))) (sS_ret (sO_f sF_bl)) sS_next)
   (sS_ret (sO_f (sF_cb cS_all (sAB_cons (sB_f (sF_o (sO_comp (sI_zipT (sAF_cons sF_var (sAF_cons sF_gl sAF_nil))) (sG_tup (sGs_cons sG_name (sGs_cons sG_name sGs_nil))) (sO_f (sF_andV (sF_o (sO_call (sAF_cons sF_var sAF_nil))) (sF_o (sO_call (sAF_cons sF_var (sAF_cons sF_var sAF_nil))))))))) sAB_nil))))),?_⟩)
 rintro ds Pr ⟨f,rfl,ok,h⟩
 unfold lfD
 fin2
 have ez:List.map (λ(p:D×D)=>D.tup [p.fst,p.snd]) ([D.int f.h,D.int f.l,D.int f.r,D.int f.a,D.int f.s].zip [D.tup [D.int 0,D.int 1],D.tup [D.int (-8),D.int 8],D.tup [D.int (-8),D.int 8],D.tup [D.int (-64),D.int 64],D.tup [D.int 0,D.int 8]])=[(f.h,0,1),(f.l,-8,8),(f.r,-8,8),(f.a,-64,64),(f.s,0,8)].map trD:=rfl
 rw[ez]
 have hq:∀q∈[(f.h,(0:Int),(1:Int)),(f.l,-8,8),(f.r,-8,8),(f.a,-64,64),(f.s,0,8)],q.2.1<=q.1/\q.1<=q.2.2:=by
  intro q hq
  simp only[mem_cons,not_mem_nil,or_false]at hq
  have h1:=ok.h
  rcases hq with rfl |rfl |rfl |rfl |rfl
  .exact ⟨by show 0<=f.h;omega,by show f.h<=1;omega⟩
  .exact ok.l
  .exact ok.r
  .exact ok.a
  .exact ok.s
 generalize hqs:[(f.h,(0:Int),(1:Int)),(f.l,-8,8),(f.r,-8,8),(f.a,-64,64),(f.s,0,8)]=qs at hq
 have hql:qs.length<=5:=by rw[<- hqs];exact Nat.le_refl 5
 refine⟨λi G ts=>∃o0 o1:Option Sl,G=[o0,o1]/\ts=(qs.take i).map λ_=>.fz (.bl true),⟨none,none,rfl,rfl⟩,?_,?_⟩
 .rintro i d G ts hd ⟨o0,o1,rfl,rfl⟩
  obtain⟨q,hq',rfl⟩:=mget hd
  have hb:=hq q (mem_of_getElem? hq')
  simp only[trD,gT,gsCons,gsNil,gN,length_cons,length_nil,Nat.reduceAdd,true_and,set_cons_succ,set_cons_zero]
  fin2
  refine⟨by rw[length_take];omega,_,rfl,rfl,?_⟩
  show if true=true then _ else _
  rw[if_pos rfl]
  refine⟨_,_,_,rfl,?_⟩
  rw[decide_eq_true hb.1,decide_eq_true hb.2]
  refine⟨some (Sl.own (OV.fz (D.int q.1))),some (Sl.own (OV.fz (D.tup [D.int q.2.1,D.int q.2.2]))),rfl,?_⟩
  rw[List.take_add_one,hq',map_append]
  rfl
 .rintro G ts ⟨o0,o1,rfl,rfl⟩
  fin2
  refine⟨qs.map λ_=>true,by rw[take_length,map_map,map_map];rfl,?_⟩
  rw[show (qs.map λ_=>true).all id=true by simp]
  exact h
theorem ok_is_ladder {f:Addr}{fd:FuncData}(Df:DefAt K mg "is_ladder" s_is_ladder f fd)(B:BltV mg)(KV:KitV K)(CV_Walk:ClsV K "Walk" ns_Walk)(CV_Reader:ClsV K "Reader" ns_Reader)(g_MOST_LIFTS:∃t,mg "MOST_LIFTS"=some (.int 6 t))(c_is_lift:Cal P w K mg base "is_lift" 2 ["thing"] (spV K 1 sp_is_lift)):
  Cal P w K mg base "is_ladder" 3 ["thing"] (spV K 1 sp_is_ladder):=by
 refine CalV.of Df sc_is_ladder (by walk_at "b") rfl (λc A o s H E hr=>⟨_,_,(pss_cons (ps_if (pw_or (pt_not (pt_val (pe_callB call_isiD (by rfl) B.isinstance boot_isinstance (pa_cons (pv 0) (pa_cons (pe_bltn (v:=.ty "tuple") (by rfl) B.tuple PyProof.Rows.boot_tuple (by rfl)) pa_nil))))) (pw_or1 (pt_cmpR op_gt (pe_callB call_len_seq (by rfl) B.len boot_len (pa_cons (pv 0) pa_nil)) (pe_globI (by rfl) g_MOST_LIFTS) (nomark _)))).pt (pss_one (ps_ret pe_bl)) pss_nil)
   (pss_one (ps_ret (pe_callB (call_allB rfl) (by rfl) B.all boot_all (pa_cons (pe_comp rfl (pi_tup (pv 0)) (show BlkScope (defScope s_is_ladder) _ from⟨rfl,by decide +kernel,by decide +kernel,by decide +kernel⟩) (N:=["lift"]) (ix:=[none]) (show CapOf _ _ _ _ from trivial) (λ_ _ _=>(pg_name (i:=0) (show List.Nodup (["lift"]:List Str) by decide +kernel) rfl (Or.inl rfl))) (λ_ _ _=>(pe_cal c_is_lift (hr.mono (by decide)) (by rfl) (pa_cons (pv 0) pa_nil)))) pa_nil))))),
  (sS_seq (sS_if (sT_or (sT_not (sT_b (sF_cb (cS_isi KV) (sAB_cons sB_var (sAB_cons (sB_f sF_ty) sAB_nil))))) (sT_test (sF_op oS_b0 (sB_f (sF_cb cS_len (sAB_cons sB_var sAB_nil))) (sB_f sF_int)))) (sS_ret (sO_f sF_bl)) sS_next)
   (sS_ret (sO_f (sF_cb cS_all (sAB_cons (sB_f (sF_o (sO_comp (sI_tup sF_var) sG_name (sO_call (sAF_cons sF_var sAF_nil))))) sAB_nil))))),?_⟩)
 rintro ds Pr ⟨fs,rfl,hl,ok,h⟩
 unfold ladD
 fin2
 rw[if_neg (by omega)]
 refine CmpW.map fs lfD (λ_=>.fz (.bl true)) (by omega) (λf hf Q q=>?_) ?_
 .fin2
  exact⟨f,rfl,ok f hf,q⟩
 fin2
 refine⟨fs.map λ_=>true,by simp only[map_map,Function.comp_def,OV.val],?_⟩
 rw[show (fs.map λ_=>true).all id=true by simp]
 exact h
theorem ok_is_part {f:Addr}{fd:FuncData}(Df:DefAt K mg "is_part" s_is_part f fd)(B:BltV mg)(KV:KitV K)(CV_Walk:ClsV K "Walk" ns_Walk)(CV_Reader:ClsV K "Reader" ns_Reader)(g_NUMBER_SPANS:TupC K mg "NUMBER_SPANS" (D.tup [.tup [.int 1,.int 64],.tup [.int 1,.int 64],.tup [.int 0,.int 6],.tup [.int 0,.int 4000]]))(c_is_number:Cal P w K mg base "is_number" 1 ["thing"] (spV K 1 sp_is_number))(c_holds:Cal P w K mg base "holds" 1 ["one","number"] (spV K 2 sp_holds)):
  Cal P w K mg base "is_part" 2 ["thing","at"] (spV K 2 sp_is_part):=by
 refine CalV.of Df sc_is_part (by walk_at "b") rfl (λc A o s H E hr=>⟨_,_,(pss_one (ps_ret (pe_and (pe_cal c_is_number (hr.mono (by decide)) (by rfl) (pa_cons (pv 0) pa_nil)) (pe_one (pe_cal c_holds (hr.mono (by decide)) (by rfl) (pa_cons (pe_ix ix_tup (pe_globT (by rfl) g_NUMBER_SPANS) (pv 1) (λ_ _=>rfl)) (pa_cons (pv 0) pa_nil))))))),
  (sS_ret (sO_f (sF_andV (sF_o (sO_call (sAF_cons sF_var sAF_nil))) (sF_o (sO_call (sAF_cons (sF_opF oF_ixT sF_gl sF_var) (sAF_cons sF_var sAF_nil))))))),?_⟩)
 rintro ds Pr ⟨n,at',rfl,hn,h⟩
 have key:∀(lo hi:Int),lo<=n->n<=hi->atI [D.tup [D.int 1,D.int 64],D.tup [D.int 1,D.int 64],D.tup [D.int 0,D.int 6],D.tup [D.int 0,D.int 4000]] (at':Int)=some (.tup [.int lo,.int hi])->∃d,atI [D.tup [D.int 1,D.int 64],D.tup [D.int 1,D.int 64],D.tup [D.int 0,D.int 6],D.tup [D.int 0,D.int 4000]] (at':Int)=some d/\sp_holds [d,.int n] λr=>Pr (.fz r.val):=λlo hi h1 h2 e=>by
  refine⟨_,e,lo,hi,n,rfl,?_⟩
  rw[decide_eq_true h1,decide_eq_true h2]
  exact h
 fin2
 refine⟨_,rfl,rfl,?_⟩
 show if true=true then _ else _
 rw[if_pos rfl]
 rcases hn with⟨rfl,h1,h2⟩ | ⟨rfl,h1,h2⟩ | ⟨rfl,h2⟩ | ⟨rfl,h2⟩
 .exact key 1 64 (by omega) (by omega) rfl
 .exact key 1 64 (by omega) (by omega) rfl
 .exact key 0 6 (by omega) (by omega) rfl
 .exact key 0 4000 (by omega) (by omega) rfl
abbrev s_law_cell_at:Stmt:=top 50
theorem sc_law_cell_at:FnScope ["_law_script","_law_k"] ["_law_script","_law_k"] (defScope s_law_cell_at):=by walk_at "S"
def sp_law_cell_at:DSp:=λds P=>∃(ns:List Int) (k:Int),ds=[.lst (ns.map .int),.int k]/\0<=k/\P (.fz (.int (ns.getD k.toNat 0)))
theorem ok_law_cell_at {f:Addr}{fd:FuncData}(Df:DefAt K mg "_law_cell_at" s_law_cell_at f fd)(B:BltV mg)(KV:KitV K)(CV_Walk:ClsV K "Walk" ns_Walk)(CV_Reader:ClsV K "Reader" ns_Reader):
  Cal P w K mg base "_law_cell_at" 1 ["_law_script","_law_k"] (spV K 2 sp_law_cell_at):=by
 refine CalV.of Df sc_law_cell_at (by walk_at "b") rfl (λc A o s H E hr=>⟨_,_,(pss_cons (ps_if (pt_cmpR op_lt (pv 1) (pe_callB call_len_seq (by rfl) B.len boot_len (pa_cons (pv 0) pa_nil)) (nomark _)) (pss_one (ps_ret (pe_ix ix_list (pv 0) (pv 1) (λ_ _=>rfl)))) pss_nil)
   (pss_one (ps_ret pe_int))),
  (sS_seq (sS_if (sT_test (sF_op oS_b0 sB_var (sB_f (sF_cb cS_len (sAB_cons sB_var sAB_nil))))) (sS_ret (sO_f (sF_opF oF_ixL sF_var sF_var))) sS_next)
   (sS_ret (sO_f sF_int))),?_⟩)
 rintro ds Pr ⟨ns,k,rfl,h0,q⟩
 fin2
 split
 .rename_i h
  exact⟨_,atI_ints h0 h,q⟩
 .rename_i h
  have e:ns.getD k.toNat 0=0:=by
   have hk:ns.length<=k.toNat:=by omega
   simp[List.getD,List.getElem?_eq_none hk]
  rw[e]at q
  exact q
abbrev hdD (h w L n:Nat)(fs:List Lf):D:=.tup [.int h,.int w,.int L,.int n,ladD fs]
def sp_walk_of:DSp:=λds P=>∃(h w L n:Nat) (fs:List Lf) (bs:List Bool) (d:D) (v:Wk),ds=[hdD h w L n fs,d]/\Bt d bs/\h<=100/\n<=5000/\Fol (Wk.turn ⟨n,0,[],[⟨0,0,h*w,1-2^n,2^n-1⟩],[]⟩) bs v/\P (.ob none "Walk" ns_Walk v.ts)
abbrev s_walk_of:Stmt:=top 46
theorem sc_walk_of:FnScope ["head","bits"] ["head","bits"] (defScope s_walk_of):=by walk_at "S"
theorem ok_walk_of {f:Addr}{fd:FuncData}(Df:DefAt K mg "walk_of" s_walk_of f fd)(B:BltV mg)(KV:KitV K)(CV_Walk:ClsV K "Walk" ns_Walk)(CV_Reader:ClsV K "Reader" ns_Reader)(g_PLANES:∃t,mg "PLANES"=some (.int 3 t))(g_HIGH:∃t,mg "HIGH"=some (.int 0 t))(g_WIDE:∃t,mg "WIDE"=some (.int 1 t))(c_followed:Cal P w K mg base "followed" 6 ["bits","many","planes"] (spV K 3 sp_followed)):
  Cal P w K mg base "walk_of" 7 ["head","bits"] (spV K 2 sp_walk_of):=by
 refine CalV.of Df sc_walk_of (by walk_at "b") rfl (λc A o s H E hr=>⟨_,_,(pss_one (ps_ret (pe_cal c_followed (hr.mono (by decide)) (by rfl) (pa_cons (pv 1) (pa_cons (pe_op op_mul (pe_ix ix_tup (pv 0) (pe_globI (by rfl) g_HIGH) (λ_ _=>rfl)) (pe_ix ix_tup (pv 0) (pe_globI (by rfl) g_WIDE) (λ_ _=>rfl))) (pa_cons (pe_ix ix_tup (pv 0) (pe_globI (by rfl) g_PLANES) (λ_ _=>rfl)) pa_nil)))))),
  (sS_ret (sO_call (sAF_cons sF_var (sAF_cons (sF_op oS_i (sB_op (OpF.b oF_ixT) sB_var (sB_f sF_int)) (sB_op (OpF.b oF_ixT) sB_var (sB_f sF_int))) (sAF_cons (sF_opF oF_ixT sF_var sF_int) sAF_nil))))),?_⟩)
 rintro ds Pr ⟨h,w,L,n,fs,bs,d,v,rfl,hd,hh,hn,F,k⟩
 fin2
 exact⟨.inl ⟨by omega,by omega⟩,bs,d,_,n,v,rfl,hd,hn,F,k⟩
abbrev wk0 (m n:Nat):Wk:=Wk.turn ⟨n,0,[],[⟨0,0,m,1-2^n,2^n-1⟩],[]⟩
def ns_Reader:List Str:=["head","fed","walk"]
def rdT (hd:D)(fd:List Str)(u:Wk):List OV:=[.fz hd,.nl (fd.map λs=>.fz (.str s)),.ob none "Walk" ns_Walk u.ts]
def HdOk (h w L n:Nat)(fs:List Lf):Prop:=(1<=h/\h<=64)/\(1<=w/\w<=64)/\L<=6/\n<=4000/\fs.length<=6/\∀f∈fs,f.Ok
def sp_is_head:DSp:=λds P=>∃(h w L n:Nat) (fs:List Lf),ds=[hdD h w L n fs]/\HdOk h w L n fs/\P (.fz (.bl true))
def sp_Reader___init__:DMo:=λts ds P=>∃(h w L n:Nat) (fs:List Lf),ts=[]/\ds=[hdD h w L n fs]/\HdOk h w L n fs/\P (rdT (hdD h w L n fs) [] (wk0 (h*w) n))
structure Rd (h w L n:Nat) (fs:List Lf) (bs:List Bool) (u:Wk):Prop where
 hd:HdOk h w L n fs
 f:Fol (wk0 (h*w) n) bs u
 us:u.us=bs.length
 b:bs.length<=100000
abbrev rd (h w L n:Nat)(fs:List Lf)(bs:List Bool)(u:Wk):List OV:=rdT (hdD h w L n fs) (bs.map bitS) u
def Fed (h w L n:Nat)(fs:List Lf)(bs:List Bool)(u:Wk)(ds:List D)(P:List OV->Prop)(X:Str->List OV->Prop):Prop:=(∃s:Str,ds=[.str s]/\s.length<=500000/\Txt.stripChars s (Str.ofString "01")≠Str.ofString ""/\X "NoBits" (rd h w L n fs bs u))∨∃(cs:List Bool) (v:Wk),ds=[.str (strOf cs)]/\cs.length<=500000/\Fol u cs v/\((v.us<bs.length+cs.length/\X "TooMany" (rd h w L n fs bs u))∨(v.us=bs.length+cs.length/\P (rd h w L n fs (bs++cs) v)))
def sp_Reader_feed:DMR:=λts ds P X=>∃(h w L n:Nat) (fs:List Lf) (bs:List Bool) (u:Wk),ts=rd h w L n fs bs u/\Rd h w L n fs bs u/\Fed h w L n fs bs u ds (P .non) X
def sp_Reader_is_whole:DSp:=λds P=>∃(hd:D) (fd:List Str) (u:Wk),ds=[.obj "Reader" ns_Reader (OV.vals (rdT hd fd u))]/\P (.fz (.bl (decide (u.pl<0))))
def sp_Reader_spans:DSp:=λds P=>∃(hd:D) (fd:List Str) (u:Wk),ds=[.obj "Reader" ns_Reader (OV.vals (rdT hd fd u))]/\u.wk.length<400000/\u.ah.length<400000/\(spansOf u).length<=900000/\(∀p∈u.wk++u.ah,0<=p.e-p.s/\p.e-p.s<=100000)/\P (.nl ((spansOf u).map .fz))
abbrev s_is_head:Stmt:=top 45
theorem sc_is_head:FnScope ["thing"] ["thing"] (defScope s_is_head):=by walk_at "S"
abbrev s_Reader___init__:Stmt:=inClass (top 48) 0
theorem sc_Reader___init__:FnScope ["self","head"] ["self","head"] (defScope s_Reader___init__):=by walk_at "S"
abbrev s_Reader_feed:Stmt:=inClass (top 48) 1
theorem sc_Reader_feed:FnScope ["self","bits"] ["self","bits"] (defScope s_Reader_feed):=by walk_at "S"
abbrev s_Reader_is_whole:Stmt:=inClass (top 48) 3
theorem sc_Reader_is_whole:FnScope ["self"] ["self"] (defScope s_Reader_is_whole):=by walk_at "S"
abbrev s_Reader_spans:Stmt:=inClass (top 48) 4
theorem sc_Reader_spans:FnScope ["self"] ["self"] (defScope s_Reader_spans):=by walk_at "S"
theorem tw_all {p:Nat->Bool}:∀(l:List Nat),(∀c∈l,p c=true)->l.takeWhile p=l
 | [],_=>rfl
 |c::l,h=>by rw[List.takeWhile_cons,h c mem_cons_self,if_pos rfl,tw_all l λd hd=>h d (mem_cons_of_mem _ hd)]
theorem strip_full {x y:Str}(h:∀c∈x.cps.toList,y.cps.contains c=true):Txt.stripChars x y=⟨#[]⟩:=by
 have lo:PySem.stripLo y.cps.contains true x=x.length:=by
  simp only[PySem.stripLo,if_true]
  rw[tw_all _ h,length_toList]
  rfl
 unfold Txt.stripChars Txt.stripBy
 split
 .rename_i z
  unfold PySem.stripSame at z
  rw[lo]at z
  have hx:x.length=0:=by
   have:=(and_eq_true _ _).mp z
   simpa using this.1
  obtain⟨a⟩:=x
  have:a=#[]:=Array.eq_empty_of_size_eq_zero hx
  rw[this]
 .unfold PySem.stripped
  rw[lo]
  show (⟨x.cps.extract x.length _⟩:Str)=_
  congr 1
  refine Array.eq_empty_of_size_eq_zero ?_
  rw[Array.size_extract]
  show min _ x.cps.size-x.cps.size=0
  omega
abbrev tx (l:List Nat):Str:=⟨l.toArray⟩
theorem tx_len (l:List Nat):(tx l).length=l.length:=by show l.toArray.size=_;simp
theorem tw_not {p:Nat->Bool}:∀(l:List Nat),(∃c∈l,p c=false)->(l.takeWhile p).length<l.length
 | [],⟨c,h,_⟩=>by cases h
 |d :: l,⟨c,h,hc⟩=>by
  rw[List.takeWhile_cons]
  by_cases hd:p d=true
  .rw [if_pos hd]
   rcases mem_cons.mp h with z |z
   .subst z;rw[hd]at hc;cases hc
   .have:=tw_not l ⟨c,z,hc⟩
    simp only[length_cons]
    omega
  .rw [if_neg hd]
   simp
theorem tw_mem {p:Nat->Bool}:∀(l:List Nat) {c:Nat},c∈l->p c=false->c∈l.drop (l.takeWhile p).length
 | [],c,h,_=>by cases h
 |d :: l,c,h,hc=>by
  rw[List.takeWhile_cons]
  by_cases hd:p d=true
  .rw [if_pos hd]
   rcases mem_cons.mp h with z |z
   .subst z;rw[hd]at hc;cases hc
   .exact tw_mem l z hc
  .rw [if_neg hd]
   exact h
theorem strip_ne {l:List Nat}{y:Str}{c:Nat}(hc:c∈l)(h:y.cps.contains c=false):Txt.stripChars (tx l) y≠tx []:=by
 have lo:PySem.stripLo y.cps.contains true (tx l)=(l.takeWhile y.cps.contains).length:=by simp only[PySem.stripLo,if_true]
 have h1:=tw_not l ⟨c,hc,h⟩
 have hm:=tw_mem l hc h
 have h2:=tw_not (l.drop (l.takeWhile y.cps.contains).length).reverse ⟨c,List.mem_reverse.mpr hm,h⟩
 rw[length_reverse,length_drop]at h2
 unfold Txt.stripChars Txt.stripBy
 split
 .intro z
  have:l=[]:=by
   have z2:=congrArg (λx:Str=>x.cps.toList) z
   simpa using z2
  rw[this]at hc
  cases hc
 .unfold PySem.stripped
  rw[lo]
  intro z
  have z2:=congrArg (λx:Str=>x.cps.size) z
  have hh:PySem.stripHi y.cps.contains true (tx l) (l.takeWhile y.cps.contains).length=l.length-((l.drop (l.takeWhile y.cps.contains).length).reverse.takeWhile y.cps.contains).length:=by
   simp only[PySem.stripHi,if_true]
   rw[tx_len]
  have z3:(l.toArray.extract (l.takeWhile y.cps.contains).length (PySem.stripHi y.cps.contains true (tx l) (l.takeWhile y.cps.contains).length)).size=0:=z2
  rw[hh,Array.size_extract,size_toArray]at z3
  omega
theorem bit_in (b:Bool):∀c∈(bitS b).cps.toList,(Str.ofString "01").cps.contains c=true:=by cases b<;>decide +kernel
theorem strOf_in:∀bs:List Bool,∀c∈(strOf bs).cps.toList,(Str.ofString "01").cps.contains c=true
 | [],c,hc=>by
  rw[strOf_nil]at hc
  simp[Str.empty]at hc
 |b::bs,c,hc=>by
  rw[strOf_cons,show (bitS b++strOf bs).cps=(bitS b).cps++(strOf bs).cps from rfl,toList_append]at hc
  rcases mem_append.mp hc with z |z
  .exact bit_in b c z
  .exact strOf_in bs c z
theorem strip01 (bs:List Bool):Txt.stripChars (strOf bs) (Str.ofString "01")=Str.ofString "":=by
 rw[strip_full (strOf_in bs),str_emp]
theorem ok_is_head {f:Addr}{fd:FuncData}(Df:DefAt K mg "is_head" s_is_head f fd)(B:BltV mg)(KV:KitV K)(CV_Walk:ClsV K "Walk" ns_Walk)(CV_Reader:ClsV K "Reader" ns_Reader)(g_LADDER:∃t,mg "LADDER"=some (.int 4 t))(g_NUMBER_SPANS:TupC K mg "NUMBER_SPANS" (D.tup [.tup [.int 1,.int 64],.tup [.int 1,.int 64],.tup [.int 0,.int 6],.tup [.int 0,.int 4000]]))(c_is_part:Cal P w K mg base "is_part" 2 ["thing","at"] (spV K 2 sp_is_part))(c_is_ladder:Cal P w K mg base "is_ladder" 3 ["thing"] (spV K 1 sp_is_ladder)):
  Cal P w K mg base "is_head" 4 ["thing"] (spV K 1 sp_is_head):=by
 refine CalV.of Df sc_is_head (by walk_at "b") rfl (λc A o s H E hr=>⟨_,_,(pss_cons (ps_if (pw_or (pt_not (pt_val (pe_callB call_isiD (by rfl) B.isinstance boot_isinstance (pa_cons (pv 0) (pa_cons (pe_bltn (v:=.ty "tuple") (by rfl) B.tuple PyProof.Rows.boot_tuple (by rfl)) pa_nil))))) (pw_or1 (pt_cmpR op_ne (pe_callB call_len_seq (by rfl) B.len boot_len (pa_cons (pv 0) pa_nil)) (pe_op op_add (pe_callB call_len_seq (by rfl) B.len boot_len (pa_cons (pe_globT (by rfl) g_NUMBER_SPANS) pa_nil)) pe_int) (nomark _)))).pt (pss_one (ps_ret pe_bl)) pss_nil)
   (pss_one (ps_ret (pe_and (pe_callB (call_allB rfl) (by rfl) B.all boot_all (pa_cons (pe_comp rfl (pi_range1 (by rfl) (by exact B.range) (pa_cons (pe_callB call_len_seq (by rfl) B.len boot_len (pa_cons (pe_globT (by rfl) g_NUMBER_SPANS) pa_nil)) pa_nil)) (show BlkScope (defScope s_is_head) _ from⟨rfl,by decide +kernel,by decide +kernel,by decide +kernel⟩) (N:=["at","thing"]) (ix:=[none,some 0]) (show CapOf _ _ _ _ from⟨⟨rfl,rfl,.inl rfl⟩,trivial⟩) (λ_ _ _=>(pg_name (i:=0) (show List.Nodup (["at","thing"]:List Str) by decide +kernel) rfl (Or.inl rfl))) (λ_ _ _=>(pe_cal c_is_part (hr.mono (by decide)) (by rfl) (pa_cons (pe_ix ix_tup (pv 1) (pv 0) (λ_ _=>rfl)) (pa_cons (pv 0) pa_nil))))) pa_nil)) (pe_one (pe_cal c_is_ladder (hr.mono (by decide)) (by rfl) (pa_cons (pe_ix ix_tup (pv 0) (pe_globI (by rfl) g_LADDER) (λ_ _=>rfl)) pa_nil))))))),
  (sS_seq (sS_if (sT_or (sT_not (sT_b (sF_cb (cS_isi KV) (sAB_cons sB_var (sAB_cons (sB_f sF_ty) sAB_nil))))) (sT_test (sF_op oS_ne (sB_f (sF_cb cS_len (sAB_cons sB_var sAB_nil))) (sB_f (sF_op oS_i0 (sB_f (sF_cb cS_len (sAB_cons (sB_f sF_gl) sAB_nil))) (sB_f sF_int)))))) (sS_ret (sO_f sF_bl)) sS_next)
   (sS_ret (sO_f (sF_andV (sF_cb cS_all (sAB_cons (sB_f (sF_o (sO_comp (sI_rng1 (sAB_cons (sB_f (sF_cb cS_len (sAB_cons (sB_f sF_gl) sAB_nil))) sAB_nil)) sG_name (sO_call (sAF_cons (sF_opF oF_ixT sF_var sF_var) (sAF_cons sF_var sAF_nil)))))) sAB_nil)) (sF_o (sO_call (sAF_cons (sF_opF oF_ixT sF_var sF_int) sAF_nil))))))),?_⟩)
 rintro ds Pr ⟨h,w,L,n,fs,rfl,hd,k⟩
 obtain⟨⟨h1,h2⟩,⟨w1,w2⟩,hL,hn,hf,ok⟩:=hd
 fin2
 rw[if_neg (by simp)]
 refine⟨⟨by decide,by decide⟩,?_⟩
 refine CmpW.map [(0:Int),1,2,3] D.int (λ_=>.fz (.bl true)) (by decide) (λx hx Q q=>?_) ?_
 .fin2
  simp only[mem_cons,not_mem_nil,or_false]at hx
  rcases hx with rfl |rfl |rfl |rfl
  .exact ⟨_,rfl,h,0,rfl,.inl ⟨rfl,h1,h2⟩,q⟩
  .exact ⟨_,rfl,w,1,rfl,.inr (.inl ⟨rfl,w1,w2⟩),q⟩
  .exact ⟨_,rfl,L,2,rfl,.inr (.inr (.inl ⟨rfl,hL⟩)),q⟩
  .exact ⟨_,rfl,n,3,rfl,.inr (.inr (.inr ⟨rfl,hn⟩)),q⟩
 refine⟨[true,true,true,true],rfl,?_⟩
 rw[if_pos (by decide)]
 exact⟨fs,rfl,hf,ok,k⟩
theorem ok_Reader___init__ {f:Addr}{fd:FuncData}(Df:Fun K "__init__" "Reader.__init__" s_Reader___init__ f fd)(Mf:MakAt K mg "Reader" f)(B:BltV mg)(KV:KitV K)(CV_Walk:ClsV K "Walk" ns_Walk)(CV_Reader:ClsV K "Reader" ns_Reader)(c_is_head:Cal P w K mg base "is_head" 4 ["thing"] (spV K 1 sp_is_head))(c_walk_of:Cal P w K mg base "walk_of" 7 ["head","bits"] (spV K 2 sp_walk_of)):
  CalK P w K mg base "Reader" 8 ["self","head"] (spM K 2 "Reader" ns_Reader sp_Reader___init__):=by
 refine CalK.of Df Mf sc_Reader___init__ (by walk_at "b") rfl (λc A o s H E hr=>⟨_,_,(pss_cons (ps_if (pt_not (pt_val (pe_cal c_is_head (hr.mono (by decide)) (by rfl) (pa_cons (pv 1) pa_nil)))) (pss_one ps_never) pss_nil)
   (pss_cons (ps_fld (pv 0) (pv 1) rfl)
   (pss_cons (ps_fld (pv 0) (pe_lstS pa_nil) rfl)
   (pss_one (ps_fld (pv 0) (pe_cal c_walk_of (hr.mono (by decide)) (by rfl) (pa_cons (pv 1) (pa_cons pe_str pa_nil))) rfl))))),
  (sS_seq (sS_if (sT_not (sT_b (sF_o (sO_call (sAF_cons sF_var sAF_nil))))) sS_never sS_next)
   (sS_seq (sS_fnew (j:=0) CV_Reader (by rfl) (sO_f sF_var))
   (sS_seq (sS_fnew (j:=1) CV_Reader (by rfl) (sO_lst sAO_nil))
   (sS_fnew (j:=2) CV_Reader (by rfl) (sO_call (sAF_cons sF_var (sAF_cons sF_str sAF_nil))))))),?_⟩)
 rintro a ts ds Pr ⟨h,w,L,n,fs,rfl,rfl,hd,k⟩
 have hd':=hd
 obtain⟨⟨h1,h2⟩,⟨w1,w2⟩,hL,hn,hf,ok⟩:=hd'
 gn_on
 refine⟨h,w,L,n,fs,rfl,hd,?_⟩
 fin2
 gp_on
 fin2
 refine⟨h,w,L,n,fs,[],_,wk0 (h*w) n,rfl,.inl (by rw[strOf_nil,str_emp];rfl),by omega,by omega,?_,k⟩
 rw[<- natCast_mul]
 exact .nil
theorem wk_lf {u:Wk}:OV.lf (.ob none "Walk" ns_Walk u.ts)=true:=by
 have p:∀ps:List Pa,OV.lfs (ps.map λp=>OV.fz p.d)=true:=λps=>by rw[OV.lfs_eq];simp[OV.lf,D.lf,D.lfs,Pa.d]
 simp[Wk.ts,OV.lf,OV.lfs,D.lf,lfs_fzI,p]
theorem ok_Reader_feed {f:Addr}{fd:FuncData}(Df:MetAt K "Reader" "feed" "Reader.feed" s_Reader_feed f fd)(B:BltV mg)(KV:KitV K){C_NoBits:Addr}(h_NoBits:nsIn K mainGlobals "NoBits"=some (some (.ref C_NoBits)))(O_NoBits:PyProof.Rows.OwnCls "NoBits" C_NoBits [.type "ValueError",.type "Exception",.type "BaseException",.type "object"] "ValueError.__new__" mg base){C_TooMany:Addr}(h_TooMany:nsIn K mainGlobals "TooMany"=some (some (.ref C_TooMany)))(O_TooMany:PyProof.Rows.OwnCls "TooMany" C_TooMany [.type "ValueError",.type "Exception",.type "BaseException",.type "object"] "ValueError.__new__" mg base)(CV_Walk:ClsV K "Walk" ns_Walk)(CV_Reader:ClsV K "Reader" ns_Reader)(c_Walk_follow:CalM P w K mg base "Walk" "follow" 5 ["self","bits"] (spM K 2 "Walk" ns_Walk sp_Walk_follow))(c_walk_of:Cal P w K mg base "walk_of" 7 ["head","bits"] (spV K 2 sp_walk_of)):
  CalMX P w K mg base "Reader" "feed" 8 ["self","bits"] (spR K 2 "Reader" ns_Reader sp_Reader_feed):=by
 refine CalMX.of Df sc_Reader_feed (by walk_at "b") rfl (λc A o s H E hr=>⟨_,_,(pss_cons (ps_if (pt_cmpR op_ne (pe_bm PySem.F.plainAttrs_str PySem.F.slot_str_strip PySem.F.type_str_strip mt_strip (pv 1) (pa_cons pe_str pa_nil)) pe_str (nomark _)) (pss_one (ps_raise (by rfl) O_NoBits PySem.F.excBase_ValueError hr.hd pe_str)) pss_nil)
   (pss_cons (ps_expr (pe_metN c_Walk_follow (hr.mono (by decide)) (pe_fld (pv 0) rfl) (pa_cons (pv 1) pa_nil)))
   (pss_cons (ps_if (pt_cmpR op_lt (pe_fld (pe_fld (pv 0) rfl) rfl) (pe_op op_add (pe_callB call_len_seq (by rfl) B.len boot_len (pa_cons (pe_fld (pv 0) rfl) pa_nil)) (pe_callB call_len_str (by rfl) B.len boot_len (pa_cons (pv 1) pa_nil))) (nomark _)) (pss_cons (ps_fld (pv 0) (pe_cal c_walk_of (hr.mono (by decide)) (by rfl) (pa_cons (pe_fld (pv 0) rfl) (pa_cons (pe_fld (pv 0) rfl) pa_nil))) rfl)
   (pss_one (ps_raise (by rfl) O_TooMany PySem.F.excBase_ValueError hr.hd pe_str))) pss_nil)
   (pss_one (ps_expr (pe_bm plainAttrs_list PySem.F.slot_list_extend PySem.F.type_list_extend (mt_extT rfl) (pe_fld (pv 0) rfl) (pa_cons (pv 1) pa_nil))))))),
  (λF0 H0=>(sR_seq (sR_if (sT_test (sF_op oS_ne (sB_f (sF_strip sB_var (sB_f sF_str))) (sB_f sF_str))) (sR_raise h_NoBits (sB_f sF_str)) (sR_do sS_next))
   (sR_seq (sR_do (sS_methF (j:=2) CV_Reader CV_Walk (by rfl) (by decide +kernel) (sAF_cons sF_var sAF_nil)))
   (sR_seq (sR_if (sT_test (sF_op oS_b0 (sB_fld (j:=1) CV_Walk (by rfl) (sB_fld (j:=2) CV_Reader (by rfl) sB_var)) (sB_f (sF_op oS_i0 (sB_f (sF_cb cS_len (sAB_cons (sB_fld (j:=1) CV_Reader (by rfl) sB_var) sAB_nil))) (sB_f (sF_cb cS_lenS (sAB_cons sB_var sAB_nil))))))) (sR_seq (sR_do (sS_fset (j:=2) CV_Reader (by rfl) (sO_callB (sAB_cons (sB_fld (j:=0) CV_Reader (by rfl) sB_var) (sAB_cons (sB_fld (j:=1) CV_Reader (by rfl) sB_var) sAB_nil)))))
   (sR_raise h_TooMany (sB_f sF_str))) (sR_do sS_next))
   (sR_do (sS_fextT (j:=1) CV_Reader (by rfl) sF_var)))))),?_⟩)
 rintro a ts ds Pr X ⟨h,w,L,n,fs,bs,u,rfl,R,k⟩
 obtain⟨hd,hF,hus,hbl⟩:=R
 have hd':=hd
 obtain⟨⟨h1,h2⟩,⟨w1,w2⟩,hL,hn,hf,ok⟩:=hd'
 refine rSeq_k λN hN=>?_
 rcases k with⟨s,rfl,hs,hne,k⟩ | ⟨cs,v,rfl,hcl,F,k⟩
 .fin2
  refine⟨by omega,?_⟩
  rw[if_pos (by simp[hne])]
  exact k
 fin2
 rw[strip01,strOf_len]
 refine⟨by omega,?_⟩
 rw[if_neg (by simp)]
 gp_on
 refine rSeq_k λN hN=>?_
 unfold rd rdT
 fin2
 refine⟨none,u.ts,⟨rfl,rfl⟩,u,v,cs,_,rfl,rfl,.inl rfl,F,?_⟩
 gp_on
 refine rSeq_k λN hN=>?_
 fin2
 rw[strOf_len]
 refine⟨.int v.us,rfl,by omega,?_⟩
 show if v.us<_ then _ else _
 rcases k with⟨hlt,k⟩ | ⟨he,k⟩
 .rw [if_pos (by omega)]
  refine rSeq_k λN hN=>?_
  fin2
  refine⟨by decide,h,w,L,n,fs,bs,_,u,rfl,.inr (by rw[map_map,map_map];rfl),by omega,by omega,by rw[<- natCast_mul];exact hF,wk_lf,?_⟩
  gp_on
  fin2
  exact k
 .rw [if_neg (by omega)]
  gp_on
  fin2
  refine⟨_,rfl,by rw[length_map,show (strOf cs).cps.size=cs.length from strOf_len cs,length_map];omega,?_⟩
  rw[<- map_append,sgns_strOf,<- map_append]
  exact k
theorem ok_Reader_is_whole {f:Addr}{fd:FuncData}(Df:MetAt K "Reader" "is_whole" "Reader.is_whole" s_Reader_is_whole f fd)(B:BltV mg)(KV:KitV K)(CV_Walk:ClsV K "Walk" ns_Walk)(CV_Reader:ClsV K "Reader" ns_Reader)(c_Walk_is_whole:CalM P w K mg base "Walk" "is_whole" 1 ["self"] (spV K 1 sp_Walk_is_whole)):
  CalM P w K mg base "Reader" "is_whole" 2 ["self"] (spV K 1 sp_Reader_is_whole):=by
 refine CalP.of Df sc_Reader_is_whole (by walk_at "b") rfl (λc A o s H E hr=>⟨_,_,(pss_one (ps_ret (pe_metN0 c_Walk_is_whole (hr.mono (by decide)) (pe_fld (pv 0) rfl)))),
  (sS_ret (sO_methP CV_Walk (by decide +kernel) (sB_fld (j:=2) CV_Reader (by rfl) sB_var) sAB_nil)),?_⟩)
 rintro ds Pr ⟨hd,fd,u,rfl,k⟩
 fin2
 refine⟨_,rfl,rfl,rfl,u,by rw[OV.vals_eq],rfl,k⟩
theorem ok_Reader_spans {f:Addr}{fd:FuncData}(Df:MetAt K "Reader" "spans" "Reader.spans" s_Reader_spans f fd)(B:BltV mg)(KV:KitV K)(CV_Walk:ClsV K "Walk" ns_Walk)(CV_Reader:ClsV K "Reader" ns_Reader)(c_Walk_spans:CalM P w K mg base "Walk" "spans" 1 ["self"] (spV K 1 sp_Walk_spans)):
  CalM P w K mg base "Reader" "spans" 2 ["self"] (spV K 1 sp_Reader_spans):=by
 refine CalP.of Df sc_Reader_spans (by walk_at "b") rfl (λc A o s H E hr=>⟨_,_,(pss_one (ps_ret (pe_metN0 c_Walk_spans (hr.mono (by decide)) (pe_fld (pv 0) rfl)))),
  (sS_ret (sO_methP CV_Walk (by decide +kernel) (sB_fld (j:=2) CV_Reader (by rfl) sB_var) sAB_nil)),?_⟩)
 rintro ds Pr ⟨hd,fd,u,rfl,h1,h2,h3,h4,k⟩
 fin2
 refine⟨_,rfl,rfl,rfl,u,by rw[OV.vals_eq],h1,h2,h3,h4,?_,k⟩
 rw[spans_Q]
 show OV.lfs _=true
 rw[map_map]
 exact lfs_fzS
theorem idx_mid {n i j:Nat}(h:i<=j)(hj:j<=n):Builtin.Str.strSliceIndices (some (i:Int)) (some (j:Int)) 1 n=(List.range (j-i)).map λk=>i+k:=by
 unfold Builtin.Str.strSliceIndices sliceRange
 have e0:¬ ((i:Int)<0):=by omega
 have e1:¬ ((j:Int)<0):=by omega
 simp only[e0,e1,if_false,show (1:Int) > 0 by decide,if_true]
 have e:max 0 (min (i:Int) (n:Int))=(i:Int):=by omega
 have e':max 0 (min (j:Int) (n:Int))=(j:Int):=by omega
 rw[e,e']
 have c:(if (i:Int)<(j:Int) then ((j:Int)-(i:Int)+1-1) / 1 else 0).toNat=j-i:=by
  split
  .rw [ediv_one];(clear h hj e0 e1;omega)
  .omega
 rw[c]
 refine List.map_congr_left λk _=>?_
 clear h hj e0 e1 e' c;omega
theorem txt_mid (x:Str){i j:Nat}(h:i<=j)(hj:j<=x.length):Txt.slice x (some (i:Int)) (some (j:Int))=Str.mk (List.toArray ((x.cps.toList.drop i).take (j-i))):=by
 have e:((List.range (j-i)).map λk=>i+k).filterMap (x.cps[·]?)=(x.cps.toList.drop i).take (j-i):=by
  rw[List.filterMap_map]
  rw[<- fm_take (x.cps.toList.drop i) (show j-i<=(x.cps.toList.drop i).length by rw[length_drop,length_toList];have:x.cps.size=x.length:=rfl;omega)]
  refine congrArg (λg=>List.filterMap g _) (funext λk=>?_)
  simp[getElem?_drop]
 unfold Txt.slice
 rw[idx_mid h hj]
 split
 .rename_i c
  have hc:j-i=x.length:=by simpa using c
  have hi:i=0:=by omega
  subst hi
  show x=Str.mk (List.toArray ((x.cps.toList.drop 0).take (j-0)))
  rw[List.drop_zero,hc,take_of_length_le (by rw[length_toList];exact Nat.le_refl _)]
 .rw [e]
theorem str_mid (bs:List Bool){i j:Nat}(h:i<=j)(hj:j<=bs.length):Txt.slice (strOf bs) (some (i:Int)) (some (j:Int))=strOf ((bs.take j).drop i):=by
 rw[txt_mid _ h (by rw[strOf_len];exact hj)]
 have e:strOf bs=strOf (bs.take i)++(strOf ((bs.take j).drop i)++strOf (bs.drop j)):=by
  rw[<- strOf_app,<- strOf_app]
  congr 1
  have h1:=take_append_drop i (bs.take j)
  rw[List.take_take,min_eq_left h]at h1
  rw[<- append_assoc,h1,take_append_drop]
 have l1:(strOf (bs.take i)).cps.toList.length=i:=by
  have:=strOf_len (bs.take i)
  rw[length_take,min_eq_left (by omega)]at this
  rw[length_toList]
  exact this
 have l2:(strOf ((bs.take j).drop i)).cps.toList.length=j-i:=by
  have:=strOf_len ((bs.take j).drop i)
  rw[length_drop,length_take,min_eq_left hj]at this
  rw[length_toList]
  exact this
 rw[e]
 show Str.mk (List.toArray ((((strOf (bs.take i)).cps++((strOf ((bs.take j).drop i)).cps++(strOf (bs.drop j)).cps)).toList.drop i).take (j-i)))=_
 rw[toList_append,toList_append,List.drop_append_of_le_length (by omega),List.drop_of_length_le (by omega),nil_append,List.take_append_of_le_length (by omega),take_of_length_le (by omega)]
def sp_law_spread:DSp:=λds P=>∃(c:Int) (m:Nat),ds=[.int c,.int m]/\m<=1000/\∀xs:List Int,xs.length=m->P (.nl (xs.map λx=>.fz (.int x)))
def sp_law_ladder:DSp:=λds P=>∃(c:Int) (m:Nat),ds=[.int c,.int m]/\1<=m/\m<=6/\∀fs:List Lf,fs.length<=max m 3->(∀f∈fs,f.Ok)->P (.fz (ladD fs))
def sp_law_sizes:DSp:=λds P=>∃(way c:Int),ds=[.int way,.int c]/\0<=way/\way<8/\∀h w:Nat,1<=h->h<=64->1<=w->w<=64->h*w<=400->(way<6->h*w<=12)->P (.fz (.tup [.int h,.int w]))
def sp_law_how:DSp:=λds P=>∃(way c o:Int),ds=[.int way,.int c,.int o]/\∀(fs:List Lf) (L:Nat),fs.length<=3->(∀f∈fs,f.Ok)->L<=6->(5<way->L<=2)->P (.fz (.tup [ladD fs,.int L]))
abbrev s_law_spread:Stmt:=top 52
theorem sc_law_spread:FnScope ["_law_cell","_law_many","_law_number","_law_found","_law_k"] ["_law_cell","_law_many"] (defScope s_law_spread):=by walk_at "S"
abbrev s_law_ladder:Stmt:=top 53
theorem sc_law_ladder:FnScope ["_law_cell","_law_most","_law_named","_law_xs","_law_lifts","_law_k","_law_part"] ["_law_cell","_law_most"] (defScope s_law_ladder):=by walk_at "S"
abbrev s_law_sizes:Stmt:=top 54
theorem sc_law_sizes:FnScope ["_law_way","_law_cell","_law_high"] ["_law_way","_law_cell"] (defScope s_law_sizes):=by walk_at "S"
abbrev s_law_how:Stmt:=top 55
theorem sc_law_how:FnScope ["_law_way","_law_cell","_law_other"] ["_law_way","_law_cell","_law_other"] (defScope s_law_how):=by walk_at "S"
theorem ok_law_spread {f:Addr}{fd:FuncData}(Df:DefAt K mg "_law_spread" s_law_spread f fd)(B:BltV mg)(KV:KitV K)(CV_Walk:ClsV K "Walk" ns_Walk)(CV_Reader:ClsV K "Reader" ns_Reader):
  Cal P w K mg base "_law_spread" 1 ["_law_cell","_law_many"] (spV K 2 sp_law_spread):=by
 refine CalV.of Df sc_law_spread (by walk_at "b") rfl (λc A o s H E hr=>⟨_,_,(pss_cons (ps_set (i:=2) sc_law_spread.nd rfl (Or.inl rfl) (pe_op op_mod (pv 0) pe_int))
   (pss_cons (ps_set (i:=3) sc_law_spread.nd rfl (Or.inl rfl) (pe_lstS pa_nil))
   (pss_cons (ps_for PassesOwn.never rfl (pi_range1 (by rfl) (by exact B.range) (pa_cons (pe_op op_add (pv 1) pe_int) pa_nil)) (pg_name (i:=4) sc_law_spread.nd rfl (Or.inl rfl)) (pss_cons (ps_set (i:=2) sc_law_spread.nd rfl (Or.inl rfl) (pe_op op_mod (pe_op op_add (pe_op op_add (pe_op op_add (pe_op op_mul (pe_op op_mul (pv 2) (pv 2)) pe_int) (pe_op op_mul (pv 2) pe_int)) (pe_op op_mul pe_int (pv 4))) pe_int) pe_int))
   (pss_one (ps_expr (pe_bm plainAttrs_list PySem.F.slot_list_append PySem.F.type_list_append mt_append (pv 3) (pa_cons (pe_op op_fdiv (pv 2) pe_int) pa_nil))))))
   (pss_one (ps_ret (pe_slice sl_listS (pv 3) (po_some pe_int) po_none)))))),
  (sS_seq (sS_set (sO_f (sF_op oS_i sB_var (sB_f sF_int))))
   (sS_seq (sS_set (sO_lst sAO_nil))
   (sS_seq (sS_for (sI_rng1 (sAB_cons (sB_f (sF_op oS_i0 sB_var (sB_f sF_int))) sAB_nil)) sG_name (sS_seq (sS_set (sO_f (sF_op oS_i (sB_f (sF_op oS_i0 (sB_f (sF_op oS_i0 (sB_f (sF_op oS_i0 (sB_f (sF_op oS_i (sB_f (sF_op oS_i sB_var sB_var)) (sB_f sF_int))) (sB_f (sF_op oS_i sB_var (sB_f sF_int))))) (sB_f (sF_op oS_i (sB_f sF_int) sB_var)))) (sB_f sF_int))) (sB_f sF_int))))
   (sS_app (sO_f (sF_op oS_i sB_var (sB_f sF_int))))))
   (sS_frz 3 (sS_ret (sO_slL sF_var (sP_pt (sB_f sF_int)) sP_no)))))),?_⟩)
 rintro ds Pr ⟨c,m,rfl,hm,h⟩
 gn_on
 gp_on
 have h0:0<=c%1000000007/\c%1000000007<1000000007:=by omega
 generalize c%1000000007=x at h0
 gn_on
 gp_on
 gn_on
 refine⟨⟨by omega,by omega⟩,λi G=>∃(x:Int) (xs:List Int) (o:Option Sl),G=[vI c,vI m,vI x,some (.own (.nl (xs.map λx=>.fz (.int x)))),o]/\(0<=x/\x<1000000007)/\xs.length=i,⟨x,[],none,rfl,h0,rfl⟩,?_,?_⟩
 .rintro i d G hd ⟨x,xs,o,rfl,hx,hxl⟩
  obtain⟨hi,rfl⟩:=rng_inv hd
  simp only[gN,set_cons_succ,set_cons_zero]
  gn_on
  have hn:0<=(x*x*3+x*7+5*(0+(i:Int)*1)+11)%1000000007/\(x*x*3+x*7+5*(0+(i:Int)*1)+11)%1000000007<1000000007:=⟨emod_nonneg _ (by decide),emod_lt_of_pos _ (by decide)⟩
  generalize (x*x*3+x*7+5*(0+(i:Int)*1)+11)%1000000007=y at hn
  refine⟨.inl ⟨by omega,by omega⟩,?_⟩
  gp_on
  fin2
  refine⟨by omega,y,xs++[y / 7],some (Sl.own (OV.fz (D.int (0+(i:Int)*1)))),?_,hn,by simp[hxl]⟩
  rfl
 .rintro G ⟨x,xs,o,rfl,hx,hxl⟩
  rw[rng_len]at hxl
  gp_on
  fin2
  have hc:L2.cutD (xs.map D.int) (some 2) none=(xs.drop 2).map D.int:=by
   unfold L2.cutD
   have e1:HT.sIx (xs.map D.int).length 0 (some 2)=min 2 (xs.map D.int).length:=HT.sIx_nat _ _ 2
   have e2:HT.sIx (xs.map D.int).length (xs.map D.int).length none=(xs.map D.int).length:=rfl
   rw[e1,e2,length_map,min_eq_left (by omega),<- map_drop,take_of_length_le (by rw[length_map,length_drop];omega)]
  rw[hc,fz_int]
  exact h _ (by rw[length_drop];omega)
theorem lift_ok5 (x0 x1 x2 x3 x4:Int):(⟨x0%2,x1%17-8,x2%17-8,x3%129-64,x4%9⟩:Lf).Ok:=
 have a:∀x:Int,-8<=x%17-8/\x%17-8<=8:=λx=>by omega
 ⟨by show x0%2=0∨x0%2=1;omega,a x1,a x2,by show -64<=x3%129-64/\x3%129-64<=64;omega,by show 0<=x4%9/\x4%9<=8;omega⟩
theorem lad4 (i:Int)(h0:0<=i)(h4:i<4):∃fs:List Lf,fs.length<=3/\(∀f∈fs,f.Ok)/\atI [D.tup [],D.tup [D.tup [D.int 1,D.int (-1),D.int 0,D.int 0,D.int 0],D.tup [D.int 0,D.int 0,D.int 1,D.int 0,D.int 1]],D.tup [D.tup [D.int 1,D.int (-1),D.int (-1),D.int 1,D.int 1],D.tup [D.int 0,D.int 1,D.int 1,D.int 2,D.int 2]],D.tup [D.tup [D.int 1,D.int (-1),D.int (-1),D.int 1,D.int 1],D.tup [D.int 0,D.int 1,D.int 1,D.int 2,D.int 2],D.tup [D.int 1,D.int (-1),D.int (-1),D.int 4,D.int 3]]] i=some (ladD fs):=by
 have ok:∀h l r a s:Int,(h=0∨h=1)->(-8<=l/\l<=8)->(-8<=r/\r<=8)->(-64<=a/\a<=64)->(0<=s/\s<=8)->(⟨h,l,r,a,s⟩:Lf).Ok:=λh l r a s h1 h2 h3 h4 h5=>⟨h1,h2,h3,h4,h5⟩
 have o1:=ok 1 (-1) 0 0 0 (.inr rfl) (by decide) (by decide) (by decide) (by decide)
 have o2:=ok 0 0 1 0 1 (.inl rfl) (by decide) (by decide) (by decide) (by decide)
 have o3:=ok 1 (-1) (-1) 1 1 (.inr rfl) (by decide) (by decide) (by decide) (by decide)
 have o4:=ok 0 1 1 2 2 (.inl rfl) (by decide) (by decide) (by decide) (by decide)
 have o5:=ok 1 (-1) (-1) 4 3 (.inr rfl) (by decide) (by decide) (by decide) (by decide)
 rcases (show i=0∨i=1∨i=2∨i=3 by omega) with rfl |rfl |rfl |rfl
 .exact ⟨[],by decide,(λf hf=>by cases hf),rfl⟩
 .refine ⟨[⟨1,-1,0,0,0⟩,⟨0,0,1,0,1⟩],by decide,λf hf=>?_,rfl⟩
  simp only[mem_cons,not_mem_nil,or_false]at hf
  rcases hf with rfl |rfl
  .exact o1
  .exact o2
 .refine ⟨[⟨1,-1,-1,1,1⟩,⟨0,1,1,2,2⟩],by decide,λf hf=>?_,rfl⟩
  simp only[mem_cons,not_mem_nil,or_false]at hf
  rcases hf with rfl |rfl
  .exact o3
  .exact o4
 .refine ⟨[⟨1,-1,-1,1,1⟩,⟨0,1,1,2,2⟩,⟨1,-1,-1,4,3⟩],by decide,λf hf=>?_,rfl⟩
  simp only[mem_cons,not_mem_nil,or_false]at hf
  rcases hf with rfl |rfl |rfl
  .exact o3
  .exact o4
  .exact o5
theorem ok_law_ladder {f:Addr}{fd:FuncData}(Df:DefAt K mg "_law_ladder" s_law_ladder f fd)(B:BltV mg)(KV:KitV K)(CV_Walk:ClsV K "Walk" ns_Walk)(CV_Reader:ClsV K "Reader" ns_Reader)(c_law_spread:Cal P w K mg base "_law_spread" 1 ["_law_cell","_law_many"] (spV K 2 sp_law_spread)):
  Cal P w K mg base "_law_ladder" 2 ["_law_cell","_law_most"] (spV K 2 sp_law_ladder):=by
 refine CalV.of Df sc_law_ladder (by walk_at "b") rfl (λc A o s H E hr=>⟨_,_,(pss_cons (ps_set (i:=2) sc_law_ladder.nd rfl (Or.inl rfl) (pe_lstS (pa_cons (pe_tupS pa_nil) (pa_cons (pe_tupS (pa_cons (pe_tupS (pa_cons pe_int (pa_cons (pe_un un_neg pe_int) (pa_cons pe_int (pa_cons pe_int (pa_cons pe_int pa_nil)))))) (pa_cons (pe_tupS (pa_cons pe_int (pa_cons pe_int (pa_cons pe_int (pa_cons pe_int (pa_cons pe_int pa_nil)))))) pa_nil))) (pa_cons (pe_tupS (pa_cons (pe_tupS (pa_cons pe_int (pa_cons (pe_un un_neg pe_int) (pa_cons (pe_un un_neg pe_int) (pa_cons pe_int (pa_cons pe_int pa_nil)))))) (pa_cons (pe_tupS (pa_cons pe_int (pa_cons pe_int (pa_cons pe_int (pa_cons pe_int (pa_cons pe_int pa_nil)))))) pa_nil))) pa_nil)))))
   (pss_cons (ps_expr (pe_bm plainAttrs_list PySem.F.slot_list_append PySem.F.type_list_append mt_append (pv 2) (pa_cons (pe_op op_catTS (pe_ix ix_list (pv 2) pe_int (λ_ _=>rfl)) (pe_tupS (pa_cons (pe_tupS (pa_cons pe_int (pa_cons (pe_un un_neg pe_int) (pa_cons (pe_un un_neg pe_int) (pa_cons pe_int (pa_cons pe_int pa_nil)))))) pa_nil))) pa_nil)))
   (pss_cons (ps_if (pt_cmpR op_eq (pe_op op_mod (pv 0) pe_int) pe_int (nomark _)) (pss_one (ps_ret (pe_ix ix_list (pv 2) (pe_op op_mod (pe_op op_fdiv (pv 0) pe_int) pe_int) (λ_ _=>rfl)))) pss_nil)
   (pss_cons (ps_set (i:=3) sc_law_ladder.nd rfl (Or.inl rfl) (pe_cal c_law_spread (hr.mono (by decide)) (by rfl) (pa_cons (pe_op op_fdiv (pv 0) pe_int) (pa_cons (pe_op op_mul pe_int (pv 1)) pa_nil))))
   (pss_cons (ps_set (i:=4) sc_law_ladder.nd rfl (Or.inl rfl) (pe_lstS pa_nil))
   (pss_cons (ps_for PassesOwn.never rfl (pi_range1 (by rfl) (by exact B.range) (pa_cons (pe_op op_add pe_int (pe_op op_mod (pe_op op_fdiv (pv 0) pe_int) (pv 1))) pa_nil)) (pg_name (i:=5) sc_law_ladder.nd rfl (Or.inl rfl)) (pss_cons (ps_set (i:=6) sc_law_ladder.nd rfl (Or.inl rfl) (pe_slice sl_listS (pv 3) (po_some (pe_op op_mul pe_int (pv 5))) (po_some (pe_op op_add (pe_op op_mul pe_int (pv 5)) pe_int))))
   (pss_one (ps_expr (pe_bm plainAttrs_list PySem.F.slot_list_append PySem.F.type_list_append mt_append (pv 4) (pa_cons (pe_tupS (pa_cons (pe_op op_mod (pe_ix ix_list (pv 6) pe_int (λ_ _=>rfl)) pe_int) (pa_cons (pe_op op_sub (pe_op op_mod (pe_ix ix_list (pv 6) pe_int (λ_ _=>rfl)) pe_int) pe_int) (pa_cons (pe_op op_sub (pe_op op_mod (pe_ix ix_list (pv 6) pe_int (λ_ _=>rfl)) pe_int) pe_int) (pa_cons (pe_op op_sub (pe_op op_mod (pe_ix ix_list (pv 6) pe_int (λ_ _=>rfl)) pe_int) pe_int) (pa_cons (pe_op op_mod (pe_ix ix_list (pv 6) pe_int (λ_ _=>rfl)) pe_int) pa_nil)))))) pa_nil))))))
   (pss_one (ps_ret (pe_callTy call_tupleS (by rfl) B.tuple PyProof.Rows.boot_tuple (pa_cons (pv 4) pa_nil)))))))))),
  (sS_seq (sS_set (sO_lst (sAO_cons (sO_f (sF_tup sAF_nil)) (sAO_cons (sO_f (sF_tup (sAF_cons (sF_tup (sAF_cons sF_int (sAF_cons (sF_neg (sB_f sF_int)) (sAF_cons sF_int (sAF_cons sF_int (sAF_cons sF_int sAF_nil)))))) (sAF_cons (sF_tup (sAF_cons sF_int (sAF_cons sF_int (sAF_cons sF_int (sAF_cons sF_int (sAF_cons sF_int sAF_nil)))))) sAF_nil)))) (sAO_cons (sO_f (sF_tup (sAF_cons (sF_tup (sAF_cons sF_int (sAF_cons (sF_neg (sB_f sF_int)) (sAF_cons (sF_neg (sB_f sF_int)) (sAF_cons sF_int (sAF_cons sF_int sAF_nil)))))) (sAF_cons (sF_tup (sAF_cons sF_int (sAF_cons sF_int (sAF_cons sF_int (sAF_cons sF_int (sAF_cons sF_int sAF_nil)))))) sAF_nil)))) sAO_nil)))))
   (sS_seq (sS_app (sO_f (sF_catT (sF_lf (sB_op (OpF.b oF_ixL) sB_var (sB_f sF_int))) (sF_tup (sAF_cons (sF_tup (sAF_cons sF_int (sAF_cons (sF_neg (sB_f sF_int)) (sAF_cons (sF_neg (sB_f sF_int)) (sAF_cons sF_int (sAF_cons sF_int sAF_nil)))))) sAF_nil)))))
   (sS_seq (sS_if (sT_test (sF_op oS_eq (sB_f (sF_op oS_i sB_var (sB_f sF_int))) (sB_f sF_int))) (sS_ret (sO_f (sF_lf (sB_op (OpF.b oF_ixL) sB_var (sB_f (sF_op oS_i (sB_f (sF_op oS_i sB_var (sB_f sF_int))) (sB_f sF_int))))))) sS_next)
   (sS_seq (sS_set (sO_f (sF_o (sO_call (sAF_cons (sF_op oS_i sB_var (sB_f sF_int)) (sAF_cons (sF_op oS_i (sB_f sF_int) sB_var) sAF_nil))))))
   (sS_seq (sS_set (sO_lst sAO_nil))
   (sS_seq (sS_for (sI_rng1 (sAB_cons (sB_f (sF_op oS_i0 (sB_f sF_int) (sB_f (sF_op oS_i (sB_f (sF_op oS_i sB_var (sB_f sF_int))) sB_var)))) sAB_nil)) sG_name (sS_seq (sS_set (sO_f (sF_o (sO_slL sF_var (sP_pt (sB_f (sF_op oS_i (sB_f sF_int) sB_var))) (sP_pt (sB_f (sF_op oS_i0 (sB_f (sF_op oS_i (sB_f sF_int) sB_var)) (sB_f sF_int))))))))
   (sS_app (sO_f (sF_tup (sAF_cons (sF_op oS_i (sB_op (OpF.b oF_ixL) sB_var (sB_f sF_int)) (sB_f sF_int)) (sAF_cons (sF_op oS_i0 (sB_f (sF_op oS_i (sB_op (OpF.b oF_ixL) sB_var (sB_f sF_int)) (sB_f sF_int))) (sB_f sF_int)) (sAF_cons (sF_op oS_i0 (sB_f (sF_op oS_i (sB_op (OpF.b oF_ixL) sB_var (sB_f sF_int)) (sB_f sF_int))) (sB_f sF_int)) (sAF_cons (sF_op oS_i0 (sB_f (sF_op oS_i (sB_op (OpF.b oF_ixL) sB_var (sB_f sF_int)) (sB_f sF_int))) (sB_f sF_int)) (sAF_cons (sF_op oS_i (sB_op (OpF.b oF_ixL) sB_var (sB_f sF_int)) (sB_f sF_int)) sAF_nil))))))))))
   (sS_frz 4 (sS_ret (sO_cb cO_tup (sAF_cons sF_var sAF_nil)))))))))),?_⟩)
 rintro ds Pr ⟨c,m,rfl,hm0,hm,h⟩
 gn_on
 gp_on
 gn_on
 refine⟨by decide,by simp,by simp,?_⟩
 gp_on
 gn_on
 split
 .obtain ⟨fs,f1,f2,f3⟩:=lad4 (c / 2%4) (by omega) (by omega)
  refine⟨_,f3,?_,h fs (by omega) f2⟩
  simp[ladD,lfD,D.lf,D.lfs,D.lfs_eq]
 gp_on
 gn_on
 refine⟨c / 2,5*m,by rw[show ((5*m:Nat):Int)=5*(m:Int) by omega],by omega,λxs hxl=>?_⟩
 fin2
 gp_on
 gn_on
 gp_on
 gn_on
 have hr:1<=1+c / 2%(m:Int)/\1+c / 2%(m:Int)<=m:=by
  have h1:0<=c / 2%(m:Int):=emod_nonneg _ (by omega)
  have h2:c / 2%(m:Int)<m:=emod_lt_of_pos _ (by omega)
  omega
 generalize 1+c / 2%(m:Int)=rr at hr
 generalize [OV.fz (D.tup []),OV.fz (D.tup [D.tup [D.int 1,D.int (-1),D.int 0,D.int 0,D.int 0],D.tup [D.int 0,D.int 0,D.int 1,D.int 0,D.int 1]]),OV.fz (D.tup [D.tup [D.int 1,D.int (-1),D.int (-1),D.int 1,D.int 1],D.tup [D.int 0,D.int 1,D.int 1,D.int 2,D.int 2]]),OV.fz (D.tup [D.tup [D.int 1,D.int (-1),D.int (-1),D.int 1,D.int 1],D.tup [D.int 0,D.int 1,D.int 1,D.int 2,D.int 2],D.tup [D.int 1,D.int (-1),D.int (-1),D.int 4,D.int 3]])]=named
 refine⟨by omega,⟨by omega,by omega⟩,λi G=>∃(fs:List Lf) (o5 o6:Option Sl),G=[vI c,vI m,some (.own (.nl named)),vD (.lst (xs.map .int)),some (.own (.nl (fs.map λf=>.fz (lfD f)))),o5,o6]/\(∀f∈fs,f.Ok)/\fs.length=i,⟨[],none,none,rfl,(λf hf=>by cases hf),rfl⟩,?_,?_⟩
 .rintro i d G hd ⟨fs,o5,o6,rfl,ok,hfl⟩
  obtain⟨hi,rfl⟩:=rng_inv hd
  simp only[gN,set_cons_succ,set_cons_zero]
  gn_on
  have hcut:L2.cutD (xs.map D.int) (some (5*(0+(i:Int)*1))) (some (5*(0+(i:Int)*1)+5))=((xs.drop (5*i)).take 5).map D.int:=by
   rw[show 5*(0+(i:Int)*1)=((5*i:Nat):Int) by omega,show ((5*i:Nat):Int)+5=((5*i+5:Nat):Int) by omega]
   rw[cut_nat (by omega) (by omega) (by rw[length_map];omega),toNat_natCast,toNat_natCast,<- map_drop,<- List.map_take,show 5*i+5-5*i=5 by omega]
  rw[hcut,map_map,show ((OV.val∘OV.fz):D->D)=id from rfl,map_id]
  obtain⟨x0,x1,x2,x3,x4,e5⟩:∃x0 x1 x2 x3 x4,(xs.drop (5*i)).take 5=[x0,x1,x2,x3,x4]:=by
   have hl:((xs.drop (5*i)).take 5).length=5:=by rw[length_take,length_drop];omega
   match (xs.drop (5*i)).take 5,hl with
   | [a,b,c,d,e],_=>exact⟨a,b,c,d,e,rfl⟩
  rw[e5]
  gp_on
  fin2
  refine⟨by omega,fs++[⟨x0%2,x1%17-8,x2%17-8,x3%129-64,x4%9⟩],some (Sl.own (OV.fz (D.int (0+(i:Int)*1)))),some (Sl.own (OV.fz (D.lst [D.int x0,D.int x1,D.int x2,D.int x3,D.int x4]))),?_,λf hf=>?_,by simp[hfl]⟩
  .rw [map_append]
   rfl
  .rcases mem_append.mp hf with z |z
   .exact ok f z
   .rw [mem_singleton.mp z]
    exact lift_ok5 x0 x1 x2 x3 x4
 .rintro G ⟨fs,o5,o6,rfl,ok,hfl⟩
  rw[rng_len]at hfl
  gp_on
  fin2
  rw[map_map]
  exact h fs (by omega) ok
theorem ok_law_sizes {f:Addr}{fd:FuncData}(Df:DefAt K mg "_law_sizes" s_law_sizes f fd)(B:BltV mg)(KV:KitV K)(CV_Walk:ClsV K "Walk" ns_Walk)(CV_Reader:ClsV K "Reader" ns_Reader):
  Cal P w K mg base "_law_sizes" 1 ["_law_way","_law_cell"] (spV K 2 sp_law_sizes):=by
 refine CalV.of Df sc_law_sizes (by walk_at "b") rfl (λc A o s H E hr=>⟨_,_,(pss_cons (ps_if (pt_cmpR op_eq (pv 0) pe_int (nomark _)) (pss_one (ps_ret (pe_tupS (pa_cons (pe_op op_add pe_int (pe_op op_fdiv (pe_op op_mod (pv 1) pe_int) pe_int)) (pa_cons (pe_op op_add pe_int (pe_op op_mod (pe_op op_mod (pv 1) pe_int) pe_int)) pa_nil))))) pss_nil)
   (pss_cons (ps_if (pw_and (pt_cmpR op_eq (pv 0) pe_int (nomark _)) (pw_and1 (pt_cmpR op_eq (pe_op op_mod (pv 1) pe_int) pe_int (nomark _)))).pt (pss_one (ps_ret (pe_tupS (pa_cons pe_int (pa_cons (pe_op op_add pe_int (pe_op op_mod (pe_op op_fdiv (pv 1) pe_int) pe_int)) pa_nil))))) pss_nil)
   (pss_cons (ps_if (pt_cmpR op_eq (pv 0) pe_int (nomark _)) (pss_one (ps_ret (pe_tupS (pa_cons (pe_op op_add pe_int (pe_op op_mod (pe_op op_fdiv (pv 1) pe_int) pe_int)) (pa_cons pe_int pa_nil))))) pss_nil)
   (pss_cons (ps_if (pt_cmpR op_eq (pv 0) pe_int (nomark _)) (pss_one (ps_ret (pe_tupS (pa_cons (pe_op op_add pe_int (pe_op op_mod (pv 1) pe_int)) (pa_cons (pe_op op_add pe_int (pe_op op_mod (pe_op op_fdiv (pv 1) pe_int) pe_int)) pa_nil))))) pss_nil)
   (pss_cons (ps_set (i:=2) sc_law_sizes.nd rfl (Or.inl rfl) (pe_op op_add pe_int (pe_op op_mod (pv 1) pe_int)))
   (pss_one (ps_ret (pe_tupS (pa_cons (pv 2) (pa_cons (pe_op op_add pe_int (pe_op op_mod (pe_op op_fdiv (pv 1) pe_int) (pe_op op_fdiv pe_int (pv 2)))) pa_nil)))))))))),
  (sS_seq (sS_if (sT_test (sF_op oS_eq sB_var (sB_f sF_int))) (sS_ret (sO_f (sF_tup (sAF_cons (sF_op oS_i0 (sB_f sF_int) (sB_f (sF_op oS_i (sB_f (sF_op oS_i sB_var (sB_f sF_int))) (sB_f sF_int)))) (sAF_cons (sF_op oS_i0 (sB_f sF_int) (sB_f (sF_op oS_i (sB_f (sF_op oS_i sB_var (sB_f sF_int))) (sB_f sF_int)))) sAF_nil))))) sS_next)
   (sS_seq (sS_if (sT_and (sT_test (sF_op oS_eq sB_var (sB_f sF_int))) (sT_test (sF_op oS_eq (sB_f (sF_op oS_i sB_var (sB_f sF_int))) (sB_f sF_int)))) (sS_ret (sO_f (sF_tup (sAF_cons sF_int (sAF_cons (sF_op oS_i0 (sB_f sF_int) (sB_f (sF_op oS_i (sB_f (sF_op oS_i sB_var (sB_f sF_int))) (sB_f sF_int)))) sAF_nil))))) sS_next)
   (sS_seq (sS_if (sT_test (sF_op oS_eq sB_var (sB_f sF_int))) (sS_ret (sO_f (sF_tup (sAF_cons (sF_op oS_i0 (sB_f sF_int) (sB_f (sF_op oS_i (sB_f (sF_op oS_i sB_var (sB_f sF_int))) (sB_f sF_int)))) (sAF_cons sF_int sAF_nil))))) sS_next)
   (sS_seq (sS_if (sT_test (sF_op oS_eq sB_var (sB_f sF_int))) (sS_ret (sO_f (sF_tup (sAF_cons (sF_op oS_i0 (sB_f sF_int) (sB_f (sF_op oS_i sB_var (sB_f sF_int)))) (sAF_cons (sF_op oS_i0 (sB_f sF_int) (sB_f (sF_op oS_i (sB_f (sF_op oS_i sB_var (sB_f sF_int))) (sB_f sF_int)))) sAF_nil))))) sS_next)
   (sS_seq (sS_set (sO_f (sF_op oS_i0 (sB_f sF_int) (sB_f (sF_op oS_i sB_var (sB_f sF_int))))))
   (sS_ret (sO_f (sF_tup (sAF_cons sF_var (sAF_cons (sF_op oS_i0 (sB_f sF_int) (sB_f (sF_op oS_i (sB_f (sF_op oS_i sB_var (sB_f sF_int))) (sB_f (sF_op oS_i (sB_f sF_int) sB_var))))) sAF_nil)))))))))),?_⟩)
 rintro ds Pr ⟨way,c,rfl,hw0,hw8,h⟩
 have go:∀(a b:Int) (A B:Nat),(1<=a/\a<=A)->(1<=b/\b<=B)->A<=64->B<=64->A*B<=400->(way<6->A*B<=12)->Pr (OV.fz (D.tup [D.int a,D.int b])):=λa b A B ha hb hA hB h5 h6=>by
  obtain⟨x,rfl⟩:∃x:Nat,a=x:=⟨a.toNat,by omega⟩
  obtain⟨y,rfl⟩:∃y:Nat,b=y:=⟨b.toNat,by omega⟩
  have hx:1<=x/\x<=A:=by omega
  have hy:1<=y/\y<=B:=by omega
  have hm:=Nat.mul_le_mul hx.2 hy.2
  exact h x y hx.1 (le_trans hx.2 hA) hy.1 (le_trans hy.2 hB) (le_trans hm h5) λz=>le_trans hm (h6 z)
 fin2
 by_cases e5:way=5
 .rw [if_pos e5]
  exact go _ _ 2 2 (by omega) (by omega) (by decide) (by decide) (by decide) (λ_=>by decide)
 .rw [if_neg e5]
  by_cases e6:way=6
  .rw [if_pos e6,if_pos e6]
   have n6:¬ way<6:=by omega
   clear e5 e6
   split
   .exact go _ _ 1 64 (by decide) (by omega) (by decide) (by decide) (by decide) λz=>absurd z n6
   .exact go _ _ 64 1 (by omega) (by decide) (by decide) (by decide) (by decide) λz=>absurd z n6
  .rw [if_neg e6,if_neg e6]
   by_cases e7:way=7
   .rw [if_pos e7]
    have n6:¬ way<6:=by omega
    clear e5 e6 e7
    exact go _ _ 5 5 (by omega) (by omega) (by decide) (by decide) (by decide) λz=>absurd z n6
   .rw [if_neg e7]
    clear e5 e6 e7 hw0 hw8
    have ha:1<=1+c%12/\1+c%12<=12:=by omega
    generalize 1+c%12=a at ha
    have a0:0<a:=by omega
    have hq:1<=12 / a:=by
     rw[Int.le_ediv_iff_mul_le a0]
     omega
    have hq2:a*(12 / a)<=12:=Int.mul_ediv_self_le (by omega)
    generalize 12 / a=e at hq hq2
    have hb:0<=c / 12%e/\c / 12%e<e:=⟨emod_nonneg _ (by omega),emod_lt_of_pos _ hq⟩
    generalize c / 12%e=b at hb
    have h12:a*(1+b)<=12:=Int.le_trans (Int.mul_le_mul_of_nonneg_left (by omega) (Int.le_of_lt a0)) hq2
    obtain⟨x,rfl⟩:∃x:Nat,a=x:=⟨a.toNat,by omega⟩
    obtain⟨y,hy⟩:∃y:Nat,1+b=y:=⟨(1+b).toNat,by omega⟩
    rw[hy]at h12 ⊢
    have hxy:x*y<=12:=by exact_mod_cast h12
    have x1:1<=x:=by omega
    have y1:1<=y:=by omega
    have y12:y<=12:=le_trans (Nat.le_mul_of_pos_left y x1) hxy
    exact⟨⟨by omega,by omega⟩,by omega,h x y x1 (by omega) y1 (le_trans y12 (by decide)) (le_trans hxy (by decide)) λ_=>hxy⟩
theorem ok_law_how {f:Addr}{fd:FuncData}(Df:DefAt K mg "_law_how" s_law_how f fd)(B:BltV mg)(KV:KitV K)(CV_Walk:ClsV K "Walk" ns_Walk)(CV_Reader:ClsV K "Reader" ns_Reader)(c_law_ladder:Cal P w K mg base "_law_ladder" 2 ["_law_cell","_law_most"] (spV K 2 sp_law_ladder)):
  Cal P w K mg base "_law_how" 3 ["_law_way","_law_cell","_law_other"] (spV K 3 sp_law_how):=by
 refine CalV.of Df sc_law_how (by walk_at "b") rfl (λc A o s H E hr=>⟨_,_,(pss_cons (ps_if (pt_cmpR op_gt (pv 0) pe_int (nomark _)) (pss_one (ps_ret (pe_tupS (pa_cons (pe_cal c_law_ladder (hr.mono (by decide)) (by rfl) (pa_cons (pv 1) (pa_cons pe_int pa_nil))) (pa_cons (pe_op op_mod (pv 2) pe_int) pa_nil))))) pss_nil)
   (pss_one (ps_ret (pe_tupS (pa_cons (pe_cal c_law_ladder (hr.mono (by decide)) (by rfl) (pa_cons (pv 1) (pa_cons pe_int pa_nil))) (pa_cons (pe_op op_mod (pv 2) pe_int) pa_nil)))))),
  (sS_seq (sS_if (sT_test (sF_op oS_b0 sB_var (sB_f sF_int))) (sS_ret (sO_f (sF_tup (sAF_cons (sF_o (sO_call (sAF_cons sF_var (sAF_cons sF_int sAF_nil)))) (sAF_cons (sF_op oS_i sB_var (sB_f sF_int)) sAF_nil))))) sS_next)
   (sS_ret (sO_f (sF_tup (sAF_cons (sF_o (sO_call (sAF_cons sF_var (sAF_cons sF_int sAF_nil)))) (sAF_cons (sF_op oS_i sB_var (sB_f sF_int)) sAF_nil)))))),?_⟩)
 rintro ds Pr ⟨way,c,o,rfl,h⟩
 fin2
 split
 .refine ⟨c,1,rfl,by decide,by decide,λfs hf ok=>?_⟩
  have:=h fs (o%3).toNat (by omega) ok (by omega) (λ_=>by omega)
  rw[toNat_of_nonneg (by omega)]at this
  exact this
 .rename_i hw
  refine⟨c,3,rfl,by decide,by decide,λfs hf ok=>?_⟩
  have:=h fs (o%7).toNat (by omega) ok (by omega) (λz=>absurd z hw)
  rw[toNat_of_nonneg (by omega)]at this
  exact this
abbrev s_law_whole:Stmt:=top 51
theorem sc_law_whole:FnScope ["_law_found"] ["_law_found"] (defScope s_law_whole):=by walk_at "S"
def sp_law_whole:DSp:=λds P=>match ds with
 | [.int _]=>P (.fz (.bl true))
 |_=>False
theorem ok_law_whole {f:Addr}{fd:FuncData}(Df:DefAt K mg "_law_whole" s_law_whole f fd)(B:BltV mg)(KV:KitV K)(CV_Walk:ClsV K "Walk" ns_Walk)(CV_Reader:ClsV K "Reader" ns_Reader):
  Cal P w K mg base "_law_whole" 1 ["_law_found"] (spV K 1 sp_law_whole):=by
 refine CalV.of Df sc_law_whole (by walk_at "b") rfl (λc A o s H E hr=>⟨_,_,(pss_one (ps_ret (pe_and (pe_callB call_isiD (by rfl) B.isinstance boot_isinstance (pa_cons (pv 0) (pa_cons (pe_bltn (v:=.ty "int") (by rfl) B.int PyProof.Rows.boot_int (by rfl)) pa_nil))) (pe_one (pe_not (pe_callB call_isiD (by rfl) B.isinstance boot_isinstance (pa_cons (pv 0) (pa_cons (pe_bltn (v:=.ty "bool") (by rfl) B.bool PyProof.Rows.boot_bool (by rfl)) pa_nil)))))))),
  (sS_ret (sO_f (sF_andV (sF_cb (cS_isi KV) (sAB_cons sB_var (sAB_cons (sB_f sF_ty) sAB_nil))) (sF_notV (sF_cb (cS_isi KV) (sAB_cons sB_var (sAB_cons (sB_f sF_ty) sAB_nil))))))),?_⟩)
 intro ds Pr h
 unfold sp_law_whole at h
 split at h
 .fin2
  exact h
 .exact h.elim
theorem cut_from (xs:List D)(k:Nat):L2.cutD xs (some (k:Int)) none=xs.drop k:=by
 unfold L2.cutD
 have e1:HT.sIx xs.length 0 (some (k:Int))=min k xs.length:=HT.sIx_nat _ _ k
 have e2:HT.sIx xs.length xs.length none=xs.length:=rfl
 rw[e1,e2,take_of_length_le (by rw[length_drop];omega)]
 by_cases h:k<=xs.length
 .rw [min_eq_left h]
 .rw [Nat.min_eq_right (by omega),List.drop_of_length_le (Nat.le_refl _),List.drop_of_length_le (by omega)]
def sp_law_head:DSp:=λds P=>∃ns:List Int,ds=[.lst (ns.map .int)]/\∀(h w L n:Nat) (fs:List Lf),HdOk h w L n fs->h*w<=400->n<=40->P (.fz (hdD h w L n fs))
def sp_law_bits:DSp:=λds P=>∃cs:List Int,ds=[.lst (cs.map .int)]/\cs.length<=100/\∀bs:List Bool,bs.length<=1000->P (.fz (.str (strOf bs)))
def sp_Reader_many:DSp:=λds P=>∃(hd:D) (fd:List Str) (u:Wk),ds=[.obj "Reader" ns_Reader (OV.vals (rdT hd fd u))]/\P (.fz (.int fd.length))
abbrev s_law_head:Stmt:=top 56
theorem sc_law_head:FnScope ["_law_script","_law_way","_law_high","_law_wide","_law_ladder_here","_law_levels","_law_planes"] ["_law_script"] (defScope s_law_head):=by walk_at "S"
abbrev s_law_bits:Stmt:=top 57
theorem sc_law_bits:FnScope ["_law_cells","_law_digits","_law_bits_here","_law_cell"] ["_law_cells"] (defScope s_law_bits):=by walk_at "S"
abbrev s_Reader_many:Stmt:=inClass (top 48) 2
theorem sc_Reader_many:FnScope ["self"] ["self"] (defScope s_Reader_many):=by walk_at "S"
theorem ok_law_head {f:Addr}{fd:FuncData}(Df:DefAt K mg "_law_head" s_law_head f fd)(B:BltV mg)(KV:KitV K)(CV_Walk:ClsV K "Walk" ns_Walk)(CV_Reader:ClsV K "Reader" ns_Reader)(c_law_cell_at:Cal P w K mg base "_law_cell_at" 1 ["_law_script","_law_k"] (spV K 2 sp_law_cell_at))(c_law_sizes:Cal P w K mg base "_law_sizes" 1 ["_law_way","_law_cell"] (spV K 2 sp_law_sizes))(c_law_how:Cal P w K mg base "_law_how" 3 ["_law_way","_law_cell","_law_other"] (spV K 3 sp_law_how)):
  Cal P w K mg base "_law_head" 4 ["_law_script"] (spV K 1 sp_law_head):=by
 refine CalV.of Df sc_law_head (by walk_at "b") rfl (λc A o s H E hr=>⟨_,_,(pss_cons (ps_set (i:=1) sc_law_head.nd rfl (Or.inl rfl) (pe_op op_mod (pe_cal c_law_cell_at (hr.mono (by decide)) (by rfl) (pa_cons (pv 0) (pa_cons pe_int pa_nil))) pe_int))
   (pss_cons (ps_asg (pe_cal c_law_sizes (hr.mono (by decide)) (by rfl) (pa_cons (pv 1) (pa_cons (pe_op op_fdiv (pe_cal c_law_cell_at (hr.mono (by decide)) (by rfl) (pa_cons (pv 0) (pa_cons pe_int pa_nil))) pe_int) pa_nil))) (pg_tup (n:=2) rfl (pgs_cons (pg_name (i:=2) sc_law_head.nd rfl (Or.inl rfl)) (pgs_cons (pg_name (i:=3) sc_law_head.nd rfl (Or.inl rfl)) pgs_nil))))
   (pss_cons (ps_asg (pe_cal c_law_how (hr.mono (by decide)) (by rfl) (pa_cons (pv 1) (pa_cons (pe_cal c_law_cell_at (hr.mono (by decide)) (by rfl) (pa_cons (pv 0) (pa_cons pe_int pa_nil))) (pa_cons (pe_cal c_law_cell_at (hr.mono (by decide)) (by rfl) (pa_cons (pv 0) (pa_cons pe_int pa_nil))) pa_nil)))) (pg_tup (n:=2) rfl (pgs_cons (pg_name (i:=4) sc_law_head.nd rfl (Or.inl rfl)) (pgs_cons (pg_name (i:=5) sc_law_head.nd rfl (Or.inl rfl)) pgs_nil))))
   (pss_cons (ps_set (i:=6) sc_law_head.nd rfl (Or.inl rfl) (pe_op op_mod (pe_op op_fdiv (pe_cal c_law_cell_at (hr.mono (by decide)) (by rfl) (pa_cons (pv 0) (pa_cons pe_int pa_nil))) pe_int) (pe_ix ix_list (pe_lstS (pa_cons pe_int (pa_cons pe_int (pa_cons pe_int (pa_cons pe_int (pa_cons pe_int (pa_cons pe_int (pa_cons pe_int (pa_cons pe_int pa_nil))))))))) (pv 1) (λ_ _=>rfl))))
   (pss_one (ps_ret (pe_tupS (pa_cons (pv 2) (pa_cons (pv 3) (pa_cons (pv 5) (pa_cons (pv 6) (pa_cons (pv 4) pa_nil)))))))))))),
  (sS_seq (sS_set (sO_f (sF_op oS_i (sB_f (sF_o (sO_call (sAF_cons sF_var (sAF_cons sF_int sAF_nil))))) (sB_f sF_int))))
   (sS_seq (sS_asg (sF_o (sO_call (sAF_cons sF_var (sAF_cons (sF_op oS_i (sB_f (sF_o (sO_call (sAF_cons sF_var (sAF_cons sF_int sAF_nil))))) (sB_f sF_int)) sAF_nil)))) (sG_tup (sGs_cons sG_name (sGs_cons sG_name sGs_nil))))
   (sS_seq (sS_asg (sF_o (sO_call (sAF_cons sF_var (sAF_cons (sF_o (sO_call (sAF_cons sF_var (sAF_cons sF_int sAF_nil)))) (sAF_cons (sF_o (sO_call (sAF_cons sF_var (sAF_cons sF_int sAF_nil)))) sAF_nil))))) (sG_tup (sGs_cons sG_name (sGs_cons sG_name sGs_nil))))
   (sS_seq (sS_set (sO_f (sF_op oS_i (sB_f (sF_op oS_i (sB_f (sF_o (sO_call (sAF_cons sF_var (sAF_cons sF_int sAF_nil))))) (sB_f sF_int))) (sB_op (OpF.b oF_ixL) (sB_f (sF_o (sO_lst (sAO_cons (sO_f sF_int) (sAO_cons (sO_f sF_int) (sAO_cons (sO_f sF_int) (sAO_cons (sO_f sF_int) (sAO_cons (sO_f sF_int) (sAO_cons (sO_f sF_int) (sAO_cons (sO_f sF_int) (sAO_cons (sO_f sF_int) sAO_nil))))))))))) sB_var))))
   (sS_ret (sO_f (sF_tup (sAF_cons sF_var (sAF_cons sF_var (sAF_cons sF_var (sAF_cons sF_var (sAF_cons sF_var sAF_nil)))))))))))),?_⟩)
 rintro ds Pr ⟨ns,rfl,k⟩
 gn_on
 refine⟨ns,0,rfl,by decide,?_⟩
 fin2
 generalize ns.getD 0 0=c0
 have hy:0<=c0%8/\c0%8<8:=by omega
 generalize c0%8=way at hy
 gp_on
 gn_on
 refine⟨ns,0,rfl,by decide,?_⟩
 fin2
 refine⟨way,_,rfl,hy.1,hy.2,λh w h1 h2 w1 w2 hw4 hw12=>?_⟩
 fin2
 gp_on
 gn_on
 refine⟨ns,1,rfl,by decide,?_⟩
 fin2
 refine⟨ns,2,rfl,by decide,?_⟩
 fin2
 refine⟨way,_,_,rfl,λfs L hf3 ok hL hL2=>?_⟩
 fin2
 gp_on
 gn_on
 refine⟨ns,2,rfl,by decide,?_⟩
 fin2
 obtain⟨m,m1,m5,hm⟩:∃m:Nat,1<=m/\m<=40/\atI [D.int 6,D.int 6,D.int 6,D.int 2,D.int 9,D.int 40,D.int 2,D.int 3] way=some (.int m):=by
  rcases (show way=0∨way=1∨way=2∨way=3∨way=4∨way=5∨way=6∨way=7 by omega) with rfl |rfl |rfl |rfl |rfl |rfl |rfl |rfl
  all_goals first |exact⟨6,by decide,by decide,rfl⟩ |exact⟨2,by decide,by decide,rfl⟩ |exact⟨9,by decide,by decide,rfl⟩ |exact⟨40,by decide,by decide,rfl⟩ |exact⟨3,by decide,by decide,rfl⟩
 refine⟨_,hm,by omega,?_⟩
 clear hm
 have q0:0<=ns.getD 2 0 / 7%(m:Int):=emod_nonneg _ (by omega)
 have q1:ns.getD 2 0 / 7%(m:Int)<m:=emod_lt_of_pos _ (by omega)
 generalize ns.getD 2 0 / 7%(m:Int)=x at q0 q1
 obtain⟨n,rfl⟩:∃n:Nat,x=n:=⟨x.toNat,by omega⟩
 gp_on
 fin2
 exact k h w L n fs ⟨⟨h1,h2⟩,⟨w1,w2⟩,hL,by omega,by omega,ok⟩ hw4 (by omega)
def digs:List Bool:=[false,false,false,false,false,false,false,true,false,false,true,false,false,false,true,true,false,true,false,false,false,true,false,true,false,true,true,false,false,true,true,true,true,false,false,false,true,false,false,true,true,false,true,false,true,false,true,true,true,true,false,false,true,true,false,true,true,true,true,false,true,true,true,true]
theorem digs_str:(Str.ofString "0000000100100011010001010110011110001001101010111100110111101111")=strOf digs:=by decide +kernel
theorem ok_law_bits {f:Addr}{fd:FuncData}(Df:DefAt K mg "_law_bits" s_law_bits f fd)(B:BltV mg)(KV:KitV K)(CV_Walk:ClsV K "Walk" ns_Walk)(CV_Reader:ClsV K "Reader" ns_Reader):
  Cal P w K mg base "_law_bits" 1 ["_law_cells"] (spV K 1 sp_law_bits):=by
 refine CalV.of Df sc_law_bits (by walk_at "b") rfl (λc A o s H E hr=>⟨_,_,(pss_cons (ps_set (i:=1) sc_law_bits.nd rfl (Or.inl rfl) pe_str)
   (pss_cons (ps_set (i:=2) sc_law_bits.nd rfl (Or.inl rfl) pe_str)
   (pss_cons (ps_for PassesOwn.never rfl (pi_list (pv 0)) (pg_name (i:=3) sc_law_bits.nd rfl (Or.inl rfl)) (pss_one (ps_if (pt_cmpR op_lt (pe_callB call_len_str (by rfl) B.len boot_len (pa_cons (pv 2) pa_nil)) pe_int (nomark _)) (pss_one (ps_set (i:=2) sc_law_bits.nd rfl (Or.inl rfl) (pe_op op_add_str (pv 2) (pe_slice sl_str (pv 1) (po_some (pe_op op_mul pe_int (pe_op op_mod (pv 3) pe_int))) (po_some (pe_op op_add (pe_op op_mul pe_int (pe_op op_mod (pv 3) pe_int)) pe_int)))))) pss_nil)))
   (pss_one (ps_ret (pv 2)))))),
  (sS_seq (sS_set (sO_f sF_str))
   (sS_seq (sS_set (sO_f sF_str))
   (sS_seq (sS_for (sI_list sF_var) sG_name (sS_if (sT_test (sF_op oS_b0 (sB_f (sF_cb cS_lenS (sAB_cons sB_var sAB_nil))) (sB_f sF_int))) (sS_set (sO_f (sF_op oS_addS sB_var (sB_f (sF_slS sF_var (sP_pt (sB_f (sF_op oS_i (sB_f sF_int) (sB_f (sF_op oS_i sB_var (sB_f sF_int)))))) (sP_pt (sB_f (sF_op oS_i0 (sB_f (sF_op oS_i (sB_f sF_int) (sB_f (sF_op oS_i sB_var (sB_f sF_int))))) (sB_f sF_int))))))))) sS_next))
   (sS_ret (sO_f sF_var))))),?_⟩)
 rintro ds Pr ⟨cs,rfl,hl,h⟩
 gn_on
 rw[digs_str]
 gp_on
 gn_on
 gp_on
 gn_on
 refine⟨λi G=>∃(bs:List Bool) (o:Option Sl),G=[vD (.lst (cs.map .int)),vD (.str (strOf digs)),vD (.str (strOf bs)),o]/\bs.length<=4*i,⟨[],none,by rw[strOf_nil];rfl,by simp⟩,?_,?_⟩
 .rintro i d G hd ⟨bs,o,rfl,hbl⟩
  obtain⟨c,hc,rfl⟩:=mget hd
  have hi:i<cs.length:=(List.getElem?_eq_some_iff.mp hc).1
  simp only[gN,set_cons_succ,set_cons_zero]
  fin2
  obtain⟨j,ej,hj⟩:∃j:Nat,c%16=j/\j<16:=⟨(c%16).toNat,by omega,by omega⟩
  rw[ej,show (4:Int)*(j:Int)=((4*j:Nat):Int) by omega,show ((4*j:Nat):Int)+4=((4*j+4:Nat):Int) by omega]
  have hdl:digs.length=64:=rfl
  rw[str_mid digs (by omega) (by omega),strOf_len,strOf_len,strOf_len]
  have hsl:((digs.take (4*j+4)).drop (4*j)).length=4:=by rw[length_drop,length_take];omega
  refine⟨by omega,?_⟩
  split
  .refine ⟨by omega,by omega,bs++(digs.take (4*j+4)).drop (4*j),some (Sl.own (OV.fz (D.int c))),by rw[strOf_app],by rw[length_append,hsl];omega⟩
  .exact ⟨bs,some (Sl.own (OV.fz (D.int c))),rfl,by omega⟩
 .rintro G ⟨bs,o,rfl,hbl⟩
  gp_on
  fin2
  rw[length_map]at hbl
  exact h bs (by omega)
theorem idx_clamp {n i j:Nat}:Builtin.Str.strSliceIndices (some (i:Int)) (some (j:Int)) 1 n=Builtin.Str.strSliceIndices (some ((min i n:Nat):Int)) (some ((min j n:Nat):Int)) 1 n:=by
 unfold Builtin.Str.strSliceIndices sliceRange
 have e0:¬ ((i:Int)<0):=by omega
 have e1:¬ ((j:Int)<0):=by omega
 have e2:¬ (((min i n:Nat):Int)<0):=by omega
 have e3:¬ (((min j n:Nat):Int)<0):=by omega
 simp only[e0,e1,e2,e3,if_false,show (1:Int) > 0 by decide,if_true]
 have e:max 0 (min (i:Int) (n:Int))=((min i n:Nat):Int):=by omega
 have e':max 0 (min (j:Int) (n:Int))=((min j n:Nat):Int):=by omega
 have e4:max 0 (min ((min i n:Nat):Int) (n:Int))=((min i n:Nat):Int):=by omega
 have e5:max 0 (min ((min j n:Nat):Int) (n:Int))=((min j n:Nat):Int):=by omega
 rw[e,e',e4,e5]
theorem idx_clampF {n i:Nat}:Builtin.Str.strSliceIndices (some (i:Int)) none 1 n=Builtin.Str.strSliceIndices (some ((min i n:Nat):Int)) none 1 n:=by
 unfold Builtin.Str.strSliceIndices sliceRange
 have e0:¬ ((i:Int)<0):=by omega
 have e2:¬ (((min i n:Nat):Int)<0):=by omega
 simp only[e0,e2,if_false,show (1:Int) > 0 by decide,if_true]
 have e:max 0 (min (i:Int) (n:Int))=((min i n:Nat):Int):=by omega
 have e4:max 0 (min ((min i n:Nat):Int) (n:Int))=((min i n:Nat):Int):=by omega
 rw[e,e4]
theorem str_midC (bs:List Bool){i j:Nat}(h:i<=j):Txt.slice (strOf bs) (some (i:Int)) (some (j:Int))=strOf ((bs.take (min j bs.length)).drop (min i bs.length)):=by
 rw[<- str_mid bs (show min i bs.length<=min j bs.length by omega) (by omega)]
 unfold Txt.slice
 rw[idx_clamp,strOf_len]
theorem str_fromC (bs:List Bool)(i:Nat):Txt.slice (strOf bs) (some (i:Int)) none=strOf ((bs.take bs.length).drop (min i bs.length)):=by
 have e:Txt.slice (strOf bs) (some (i:Int)) none=Txt.slice (strOf bs) (some ((min i bs.length:Nat):Int)) none:=by
  unfold Txt.slice
  rw[idx_clampF,strOf_len]
 rw[e,take_length,txt_from _ (by rw[strOf_len];omega)]
 have e2:strOf bs=strOf (bs.take (min i bs.length))++strOf (bs.drop (min i bs.length)):=by rw[<- strOf_app,take_append_drop]
 have hl:(strOf (bs.take (min i bs.length))).cps.toList.length=min i bs.length:=by
  have:=strOf_len (bs.take (min i bs.length))
  rw[length_take]at this
  rw[length_toList]
  have:(strOf (bs.take (min i bs.length))).cps.size=(strOf (bs.take (min i bs.length))).length:=rfl
  omega
 conv=>lhs;rw[e2]
 show Str.mk (List.toArray (((strOf (bs.take (min i bs.length))).cps++(strOf (bs.drop (min i bs.length))).cps).toList.drop _))=_
 rw[toList_append,List.drop_append_of_le_length (by omega),List.drop_of_length_le (by omega),nil_append]
theorem ok_Reader_many {f:Addr}{fd:FuncData}(Df:MetAt K "Reader" "many" "Reader.many" s_Reader_many f fd)(B:BltV mg)(KV:KitV K)(CV_Walk:ClsV K "Walk" ns_Walk)(CV_Reader:ClsV K "Reader" ns_Reader):
  CalM P w K mg base "Reader" "many" 1 ["self"] (spV K 1 sp_Reader_many):=by
 refine CalP.of Df sc_Reader_many (by walk_at "b") rfl (λc A o s H E hr=>⟨_,_,(pss_one (ps_ret (pe_callB call_len_seq (by rfl) B.len boot_len (pa_cons (pe_fld (pv 0) rfl) pa_nil)))),
  (sS_ret (sO_f (sF_cb cS_len (sAB_cons (sB_fld (j:=1) CV_Reader (by rfl) sB_var) sAB_nil)))),?_⟩)
 rintro ds Pr ⟨hd,fd,u,rfl,k⟩
 fin2
 refine⟨_,rfl,?_⟩
 show Pr (.fz (.int ((OV.vals (fd.map λs=>OV.fz (.str s))).length:Int)))
 rw[OV.vals_eq,length_map,length_map]
 exact k
theorem fit_sps {ss:List Sp2}:(D.lst (ss.map spD)).fit 4=true:=by simp[D.fit,spD]
structure AtB (h w n:Nat) (bs:List Bool) (c:Nat) (u:Wk):Prop where
 f:Fol (wk0 (h*w) n) (bs.take c) u
 s:Shp ((h*w:Nat):Int) u
 us:u.us=c
 p5:u.pl<=5000
 re:(u.re.length:Int)+u.pl<800000
theorem atb_ex {h w n:Nat}{bs:List Bool}{v:Wk}(h0:0<h*w)(h4:h*w<=400)(hn:n<=5000)(F:Fol (wk0 (h*w) n) bs v)(hus:v.us=bs.length){c:Nat}(hc:c<=bs.length):∃u,AtB h w n bs c u:=by
 obtain⟨q1,q2,q3,_⟩:(wk0 (h*w) n).pl=(n:Int)-1/\(wk0 (h*w) n).re=[]/\(wk0 (h*w) n).us=0/\_:=start_facts (h*w) n
 have hS0:=start_shape (m:=((h*w:Nat):Int)) (by omega) n
 obtain⟨u,a1,a2,a3,a4,a5,a6,a7,a8⟩:=cut_any (m:=h*w) h0 (by omega) F hS0 (by omega) (by rw[q2,length_nil];omega) q3 hc
 exact⟨u,a1,a2,by omega,by omega,by rw[q2,length_nil]at a8;omega⟩
def kdB:D:=.lst [.bl true,.bl false,.bl true,.bl false,.bl false,.bl false,.bl false,.bl false,.bl false,.bl false]
def kdT:D:=.lst [.bl false,.bl true,.bl true,.bl false,.bl false,.bl false,.bl false,.bl false,.bl false,.bl false]
def sp_law_word:DMR:=λts ds P _=>∃(h w L n:Nat) (fs:List Lf) (bs:List Bool) (u:Wk),ts=rd h w L n fs bs u/\Rd h w L n fs bs u/\Fed h w L n fs bs u ds (P (.lst [])) λx ts'=>P (if x = "NoBits" then kdB else kdT) ts'
def stD (bs:List Bool)(u:Wk):D:=.lst [.int bs.length,.bl (decide (u.pl<0)),.lst ((spansQ u).map spD)]
def stO (bs:List Bool)(u:Wk):OV:=.nl [.fz (.int bs.length),.fz (.bl (decide (u.pl<0))),.nl ((spansOf u).map .fz)]
abbrev rdD (h w L n:Nat)(fs:List Lf)(bs:List Bool)(u:Wk):D:=.obj "Reader" ns_Reader (OV.vals (rd h w L n fs bs u))
def sp_law_state:DSp:=λds P=>∃(h w L n:Nat) (fs:List Lf) (bs:List Bool) (u:Wk),ds=[rdD h w L n fs bs u]/\h*w<=400/\Shp (h*w:Nat) u/\P (stO bs u)
def sp_law_bad:DMR:=λts ds P _=>∃(h w L n:Nat) (fs:List Lf) (bs cs:List Bool) (u v:Wk) (c:Int),ts=rd h w L n fs bs u/\ds=[.str (strOf cs),.int c]/\Rd h w L n fs bs u/\h*w<=400/\Shp (h*w:Nat) u/\cs.length<=100000/\Fol u cs v/\v.pl<0/\v.us=bs.length+cs.length/\P (.bl true) (rd h w L n fs bs u)
abbrev s_law_word:Stmt:=top 58
theorem sc_law_word:FnScope ["_law_reader","_law_bits_here","_law_kinds","e"] ["_law_reader","_law_bits_here"] (defScope s_law_word):=by walk_at "S"
abbrev s_law_state:Stmt:=top 59
theorem sc_law_state:FnScope ["_law_reader"] ["_law_reader"] (defScope s_law_state):=by walk_at "S"
abbrev s_law_bad:Stmt:=top 60
theorem sc_law_bad:FnScope ["_law_reader","_law_rest","_law_cell","_law_beyond","_law_line","_law_at","_law_odd","_law_words","_law_before","_law_bits_here","_law_due"] ["_law_reader","_law_rest","_law_cell"] (defScope s_law_bad):=by walk_at "S"
abbrev s_law:Stmt:=top 61
theorem sc_law:FnScope ["_law_script","_law_head_here","_law_many","_law_bits_here","_law_fed","_law_first","_law_reads","_law_found"] ["_law_script"] (defScope s_law):=by walk_at "S"
theorem lf_spO {u:Wk}:OV.lf (.nl ((spansOf u).map .fz))=true:=by
 rw[spans_Q]
 show OV.lfs _=true
 rw[map_map]
 exact lfs_fzS
theorem st_val {bs:List Bool}{u:Wk}:(stO bs u).val=stD bs u:=by
 unfold stO stD
 rw[spans_Q]
 simp only[OV.val,OV.vals_eq,map_cons,map_nil,map_map]
 rfl
theorem st_lf {bs:List Bool}{u:Wk}:(stO bs u).lf=true:=by
 have:=lf_spO (u:=u)
 simp only[stO,OV.lf,OV.lfs,D.lf,Bool.true_and,Bool.and_true]at this ⊢
 exact this
theorem st_fit {bs:List Bool}{u:Wk}:(stD bs u).fit 4=true:=by simp[D.fit,stD,spD]
theorem ok_law_word {f:Addr}{fd:FuncData}(Df:DefAt K mg "_law_word" s_law_word f fd)(B:BltV mg)(KV:KitV K){W_WaveError:Addr}(m_WaveError:mg "WaveError"=some (.ref W_WaveError))(x_M:∀c∈(["NoBits","TooMany"]:List Str),∀C,nsIn K mainGlobals c=some (some (.ref C))->exmOne K (.ref C) (.ref W_WaveError)=some true)(EV_M:∀y∈excM,ExcV K y.1 y.2.1 y.2.2)(zB_ValueError:mg "ValueError"=none)(CV_Walk:ClsV K "Walk" ns_Walk)(CV_Reader:ClsV K "Reader" ns_Reader)(n_NoBits:NsOf K mg "NoBits")(n_TooMany:NsOf K mg "TooMany")(n_NoHead:NsOf K mg "NoHead")(n_NoPicture:NsOf K mg "NoPicture")(n_NoLadder:NsOf K mg "NoLadder")(n_NoLevel:NsOf K mg "NoLevel")(n_NoPiece:NsOf K mg "NoPiece")(n_NoText:NsOf K mg "NoText")(n_NoRow:NsOf K mg "NoRow")(c_Reader_feed:CalMX P w K mg base "Reader" "feed" 8 ["self","bits"] (spR K 2 "Reader" ns_Reader sp_Reader_feed)):
  Cal P w K mg base "_law_word" 9 ["_law_reader","_law_bits_here"] (spR K 2 "Reader" ns_Reader sp_law_word):=by
 refine CalO.of (c := "Reader") (ns:=ns_Reader) Df sc_law_word (by walk_at "b") rfl (λc A o s H E hr=>⟨_,_,(pss_cons (ps_set (i:=2) sc_law_word.nd rfl (Or.inl rfl) (pe_lstS pa_nil))
   (pss_cons (ps_tryM (ni:=3) rfl rfl (λ_ _ z=>z) c_Reader_feed (hr.mono (by decide)) (pv 0) (pa_cons (pv 1) pa_nil) (by rfl) m_WaveError sc_law_word.nd rfl rfl rfl (λ_=>(pss_cons (ps_set (i:=2) sc_law_word.nd rfl (Or.inl rfl) (pe_lstS (pa_cons (pe_callB call_isX (by rfl) B.isinstance boot_isinstance (pa_cons (pv 3) (pa_cons (pe_fn (by rfl) n_NoBits) pa_nil))) (pa_cons (pe_callB call_isX (by rfl) B.isinstance boot_isinstance (pa_cons (pv 3) (pa_cons (pe_fn (by rfl) n_TooMany) pa_nil))) (pa_cons (pe_callB call_isX (by rfl) B.isinstance boot_isinstance (pa_cons (pv 3) (pa_cons (pe_bltn (v:=.ty "ValueError") (by rfl) zB_ValueError boot_ValueError (by rfl)) pa_nil))) (pa_cons (pe_callB call_isX (by rfl) B.isinstance boot_isinstance (pa_cons (pv 3) (pa_cons (pe_fn (by rfl) n_NoHead) pa_nil))) pa_nil))))))
   (pss_cons (ps_set (i:=2) sc_law_word.nd rfl (Or.inl rfl) (pe_op op_catS (pv 2) (pe_lstS (pa_cons (pe_callB call_isX (by rfl) B.isinstance boot_isinstance (pa_cons (pv 3) (pa_cons (pe_fn (by rfl) n_NoPicture) pa_nil))) (pa_cons (pe_callB call_isX (by rfl) B.isinstance boot_isinstance (pa_cons (pv 3) (pa_cons (pe_fn (by rfl) n_NoLadder) pa_nil))) (pa_cons (pe_callB call_isX (by rfl) B.isinstance boot_isinstance (pa_cons (pv 3) (pa_cons (pe_fn (by rfl) n_NoLevel) pa_nil))) pa_nil))))))
   (pss_one (ps_set (i:=2) sc_law_word.nd rfl (Or.inl rfl) (pe_op op_catS (pv 2) (pe_lstS (pa_cons (pe_callB call_isX (by rfl) B.isinstance boot_isinstance (pa_cons (pv 3) (pa_cons (pe_fn (by rfl) n_NoPiece) pa_nil))) (pa_cons (pe_callB call_isX (by rfl) B.isinstance boot_isinstance (pa_cons (pv 3) (pa_cons (pe_fn (by rfl) n_NoText) pa_nil))) (pa_cons (pe_callB call_isX (by rfl) B.isinstance boot_isinstance (pa_cons (pv 3) (pa_cons (pe_fn (by rfl) n_NoRow) pa_nil))) pa_nil)))))))))))
   (pss_one (ps_ret (pv 2))))),
  (λF0 H0=>(sR_seq (sR_do (sS_set (sO_f (sF_o (sO_lst sAO_nil)))))
   (sR_seq (sR_do (sS_tryM (m := "feed") (cs:=["NoBits","TooMany"]) (by decide +kernel) x_M (sAF_cons sF_var sAF_nil) (sS_seq (sS_set (sO_f (sF_o (sO_lst (sAO_cons (sO_f (sF_cb (cS_isM EV_M) (sAB_cons sB_var (sAB_cons (sB_f (sF_fn n_NoBits)) sAB_nil)))) (sAO_cons (sO_f (sF_cb (cS_isM EV_M) (sAB_cons sB_var (sAB_cons (sB_f (sF_fn n_TooMany)) sAB_nil)))) (sAO_cons (sO_f (sF_cb (cS_isM EV_M) (sAB_cons sB_var (sAB_cons (sB_f sF_ty) sAB_nil)))) (sAO_cons (sO_f (sF_cb (cS_isM EV_M) (sAB_cons sB_var (sAB_cons (sB_f (sF_fn n_NoHead)) sAB_nil)))) sAO_nil))))))))
   (sS_seq (sS_set (sO_f (sF_o (sO_catL sF_var (sF_o (sO_lst (sAO_cons (sO_f (sF_cb (cS_isM EV_M) (sAB_cons sB_var (sAB_cons (sB_f (sF_fn n_NoPicture)) sAB_nil)))) (sAO_cons (sO_f (sF_cb (cS_isM EV_M) (sAB_cons sB_var (sAB_cons (sB_f (sF_fn n_NoLadder)) sAB_nil)))) (sAO_cons (sO_f (sF_cb (cS_isM EV_M) (sAB_cons sB_var (sAB_cons (sB_f (sF_fn n_NoLevel)) sAB_nil)))) sAO_nil)))))))))
   (sS_set (sO_f (sF_o (sO_catL sF_var (sF_o (sO_lst (sAO_cons (sO_f (sF_cb (cS_isM EV_M) (sAB_cons sB_var (sAB_cons (sB_f (sF_fn n_NoPiece)) sAB_nil)))) (sAO_cons (sO_f (sF_cb (cS_isM EV_M) (sAB_cons sB_var (sAB_cons (sB_f (sF_fn n_NoText)) sAB_nil)))) (sAO_cons (sO_f (sF_cb (cS_isM EV_M) (sAB_cons sB_var (sAB_cons (sB_f (sF_fn n_NoRow)) sAB_nil)))) sAO_nil)))))))))))))
   (sR_ret sF_var)))),?_⟩)
 rintro a ts ds Pr X ⟨h,w,L,n,fs,bs,u,rfl,R,k⟩
 refine rSeq_k λN hN=>?_
 have hds:∃s,ds=[.str s]:=by
  rcases k with⟨s,rfl,_⟩ | ⟨cs,v,rfl,_⟩
  .exact ⟨_,rfl⟩
  .exact ⟨_,rfl⟩
 obtain⟨s,rfl⟩:=hds
 fin2
 gp_on
 refine rSeq_k λN hN=>?_
 fin2
 refine⟨h,w,L,n,fs,bs,u,rfl,R,?_⟩
 rcases k with⟨s',e,hs,hne,k⟩ | ⟨cs,v,e,hcl,F,k⟩
 .refine .inl ⟨s',e,hs,hne,by simp,exB,by simp,rfl,true,by simp,exB,by simp,rfl,false,by simp,exB,by simp,rfl,true,by simp,exB,by simp,rfl,false,by simp,exB,by simp,rfl,false,by simp,exB,by simp,rfl,false,by simp,exB,by simp,rfl,false,by simp,exB,by simp,rfl,false,by simp,exB,by simp,rfl,false,by simp,exB,by simp,rfl,false,by simp,?_⟩
  gp_on
  fin2
  rw[if_pos rfl]at k
  exact k
 .refine .inr ⟨cs,v,e,hcl,F,?_⟩
  rcases k with⟨hlt,k⟩ | ⟨he,k⟩
  .refine .inl ⟨hlt,by simp,exT,by simp,rfl,false,by simp,exT,by simp,rfl,true,by simp,exT,by simp,rfl,true,by simp,exT,by simp,rfl,false,by simp,exT,by simp,rfl,false,by simp,exT,by simp,rfl,false,by simp,exT,by simp,rfl,false,by simp,exT,by simp,rfl,false,by simp,exT,by simp,rfl,false,by simp,exT,by simp,rfl,false,by simp,?_⟩
   gp_on
   fin2
   rw[if_neg (by decide)]at k
   exact k
  .refine .inr ⟨he,?_⟩
   gp_on
   fin2
   exact k
theorem ok_law_state {f:Addr}{fd:FuncData}(Df:DefAt K mg "_law_state" s_law_state f fd)(B:BltV mg)(KV:KitV K)(CV_Walk:ClsV K "Walk" ns_Walk)(CV_Reader:ClsV K "Reader" ns_Reader)(c_Reader_many:CalM P w K mg base "Reader" "many" 1 ["self"] (spV K 1 sp_Reader_many))(c_Reader_is_whole:CalM P w K mg base "Reader" "is_whole" 2 ["self"] (spV K 1 sp_Reader_is_whole))(c_Reader_spans:CalM P w K mg base "Reader" "spans" 2 ["self"] (spV K 1 sp_Reader_spans)):
  Cal P w K mg base "_law_state" 3 ["_law_reader"] (spV K 1 sp_law_state):=by
 refine CalV.of Df sc_law_state (by walk_at "b") rfl (λc A o s H E hr=>⟨_,_,(pss_one (ps_ret (pe_lstS (pa_cons (pe_metN0 c_Reader_many (hr.mono (by decide)) (pv 0)) (pa_cons (pe_metN0 c_Reader_is_whole (hr.mono (by decide)) (pv 0)) (pa_cons (pe_metN0 c_Reader_spans (hr.mono (by decide)) (pv 0)) pa_nil)))))),
  (sS_ret (sO_lst (sAO_cons (sO_methP CV_Reader (by decide +kernel) sB_var sAB_nil) (sAO_cons (sO_methP CV_Reader (by decide +kernel) sB_var sAB_nil) (sAO_cons (sO_methP CV_Reader (by decide +kernel) sB_var sAB_nil) sAO_nil))))),?_⟩)
 rintro ds Pr ⟨h,w,L,n,fs,bs,u,rfl,hm,S,k⟩
 have tu:=shp_small S (by omega)
 fin2
 refine⟨_,_,u,by rw[OV.vals_eq],rfl,_,_,u,by rw[OV.vals_eq],rfl,_,_,u,by rw[OV.vals_eq],tu.1,tu.2.1,by omega,tu.2.2.2,lf_spO,?_⟩
 rw[length_map]
 exact k
theorem fol_stay {v:Wk}(h:v.pl<0):∀ds:List Bool,Fol v ds v
 | []=>.nil
 |_::_=>.whole h
theorem fol_on {w v:Wk}{as:List Bool}(F:Fol w as v)(h:v.pl<0):∀ds:List Bool,Fol w (as++ds) v:=by
 induction F with
 |nil=>exact λds=>fol_stay h ds
 |whole z=>exact λds=>.whole z
 |step a b c d e t ih=>exact λds=>.step a b c d e (ih h ds)
theorem ne_go {b:Bool}{A B:Prop}{d:Decidable ((!b)=true)}(hb:b=true)(h:B):if (!b)=true then A else B:=by
 subst hb
 rw[if_neg (λz=>by cases z)]
 exact h
theorem tens (c:Int):∃xs:List Bool,Txt.slice (Str.ofString "0110100111") (some (c%9)) (some (c%9+1+c / 9%9))=strOf xs/\0<xs.length/\xs.length<=10:=by
 obtain⟨i,ei,hi⟩:∃i:Nat,c%9=i/\i<9:=⟨(c%9).toNat,by omega,by omega⟩
 obtain⟨j,ej,hj⟩:∃j:Nat,c / 9%9=j/\j<9:=⟨(c / 9%9).toNat,by omega,by omega⟩
 rw[ei,ej,show (i:Int)+1+(j:Int)=((i+1+j:Nat):Int) by omega,show Str.ofString "0110100111"=strOf [false,true,true,false,true,false,false,true,true,true] by decide +kernel,str_midC _ (by omega)]
 refine⟨_,rfl,?_,?_⟩
 .rw [length_drop,length_take,show [false,true,true,false,true,false,false,true,true,true].length=10 from rfl]
  omega
 .rw [length_drop,length_take,show [false,true,true,false,true,false,false,true,true,true].length=10 from rfl]
  omega
theorem nine (i:Int)(h0:0<=i)(h9:i<9):∃x:Nat,(Str.ofString "01").cps.contains x=false/\atI [D.str (Str.ofString "2"),D.str (Str.ofString " "),D.str (Str.ofString "-"),D.str (Str.ofString "a"),D.str (Str.ofString "I"),D.str (Str.ofString "O"),D.str (Str.ofString "o"),D.str (Str.ofString "."),D.str (Str.ofString "~")] i=some (.str (tx [x])):=by
 rcases (show i=0∨i=1∨i=2∨i=3∨i=4∨i=5∨i=6∨i=7∨i=8 by omega) with rfl |rfl |rfl |rfl |rfl |rfl |rfl |rfl |rfl
 .exact ⟨50,by decide +kernel,rfl⟩
 .exact ⟨32,by decide +kernel,rfl⟩
 .exact ⟨45,by decide +kernel,rfl⟩
 .exact ⟨97,by decide +kernel,rfl⟩
 .exact ⟨73,by decide +kernel,rfl⟩
 .exact ⟨79,by decide +kernel,rfl⟩
 .exact ⟨111,by decide +kernel,rfl⟩
 .exact ⟨46,by decide +kernel,rfl⟩
 .exact ⟨126,by decide +kernel,rfl⟩
theorem odd_strip {a b:Str}{x:Nat}(h:(Str.ofString "01").cps.contains x=false):Txt.stripChars (a++tx [x]++b) (Str.ofString "01")≠Str.ofString "":=by
 have e:a++tx [x]++b=tx (a.cps.toList++[x]++b.cps.toList):=by
  show Str.mk (a.cps++#[x]++b.cps)=_
  congr 1
  simp
 rw[e,show Str.ofString ""=tx [] by decide +kernel]
 exact strip_ne (by simp) h
theorem ok_law_bad {f:Addr}{fd:FuncData}(Df:DefAt K mg "_law_bad" s_law_bad f fd)(B:BltV mg)(KV:KitV K)(CV_Walk:ClsV K "Walk" ns_Walk)(CV_Reader:ClsV K "Reader" ns_Reader)(c_law_state:Cal P w K mg base "_law_state" 3 ["_law_reader"] (spV K 1 sp_law_state))(c_law_word:Cal P w K mg base "_law_word" 9 ["_law_reader","_law_bits_here"] (spR K 2 "Reader" ns_Reader sp_law_word)):
  Cal P w K mg base "_law_bad" 10 ["_law_reader","_law_rest","_law_cell"] (spR K 3 "Reader" ns_Reader sp_law_bad):=by
 refine CalO.of (c := "Reader") (ns:=ns_Reader) Df sc_law_bad (by walk_at "b") rfl (λc A o s H E hr=>⟨_,_,(pss_cons (ps_set (i:=3) sc_law_bad.nd rfl (Or.inl rfl) (pe_op op_add_str (pv 1) (pe_slice sl_str pe_str (po_some (pe_op op_mod (pv 2) pe_int)) (po_some (pe_op op_add (pe_op op_add (pe_op op_mod (pv 2) pe_int) pe_int) (pe_op op_mod (pe_op op_fdiv (pv 2) pe_int) pe_int))))))
   (pss_cons (ps_set (i:=4) sc_law_bad.nd rfl (Or.inl rfl) (pv 3))
   (pss_cons (ps_if (pt_cmpR op_eq (pe_op op_mod (pe_op op_fdiv (pv 2) pe_int) pe_int) pe_int (nomark _)) (pss_one (ps_set (i:=4) sc_law_bad.nd rfl (Or.inl rfl) (pv 1))) pss_nil)
   (pss_cons (ps_set (i:=5) sc_law_bad.nd rfl (Or.inl rfl) (pe_op op_mod (pe_op op_fdiv (pv 2) pe_int) (pe_op op_add (pe_callB call_len_str (by rfl) B.len boot_len (pa_cons (pv 4) pa_nil)) pe_int)))
   (pss_cons (ps_set (i:=6) sc_law_bad.nd rfl (Or.inl rfl) (pe_op op_add_str (pe_op op_add_str (pe_slice sl_str (pv 4) po_none (po_some (pv 5))) (pe_ix ix_list (pe_lstS (pa_cons pe_str (pa_cons pe_str (pa_cons pe_str (pa_cons pe_str (pa_cons pe_str (pa_cons pe_str (pa_cons pe_str (pa_cons pe_str (pa_cons pe_str pa_nil)))))))))) (pe_op op_mod (pe_op op_fdiv (pv 2) pe_int) pe_int) (λ_ _=>rfl))) (pe_slice sl_str (pv 4) (po_some (pv 5)) po_none)))
   (pss_cons (ps_set (i:=7) sc_law_bad.nd rfl (Or.inl rfl) (pe_lstS (pa_cons (pe_tupS (pa_cons (pv 6) (pa_cons (pe_op op_catS (pe_lstS (pa_cons pe_bl (pa_cons pe_bl (pa_cons pe_bl pa_nil)))) (pe_op op_rep (pe_lstS (pa_cons pe_bl pa_nil)) pe_int)) pa_nil))) (pa_cons (pe_tupS (pa_cons (pv 3) (pa_cons (pe_op op_catS (pe_lstS (pa_cons pe_bl (pa_cons pe_bl (pa_cons pe_bl pa_nil)))) (pe_op op_rep (pe_lstS (pa_cons pe_bl pa_nil)) pe_int)) pa_nil))) pa_nil))))
   (pss_cons (ps_set (i:=8) sc_law_bad.nd rfl (Or.inl rfl) (pe_cal c_law_state (hr.mono (by decide)) (by rfl) (pa_cons (pv 0) pa_nil)))
   (pss_cons (ps_if (pt_cmpR op_eq (pe_op op_mod (pe_op op_fdiv (pv 2) pe_int) pe_int) pe_int (nomark _)) (pss_one (ps_set (i:=7) sc_law_bad.nd rfl (Or.inl rfl) (pe_lstS (pa_cons (pe_ix ix_list (pv 7) pe_int (λ_ _=>rfl)) (pa_cons (pe_ix ix_list (pv 7) pe_int (λ_ _=>rfl)) pa_nil))))) pss_nil)
   (pss_cons (ps_for PassesOwn.never rfl (pi_list (pv 7)) (pg_tup (n:=2) rfl (pgs_cons (pg_name (i:=9) sc_law_bad.nd rfl (Or.inl rfl)) (pgs_cons (pg_name (i:=10) sc_law_bad.nd rfl (Or.inl rfl)) pgs_nil))) (pss_one (ps_if (pw_or (pt_cmpR (op_neN hr.units) (pe_cal c_law_word (hr.mono (by decide)) (by rfl) (pa_cons (pv 0) (pa_cons (pv 9) pa_nil))) (pv 10) (nomark _)) (pw_or1 (pt_cmpR (op_neN hr.units) (pe_cal c_law_state (hr.mono (by decide)) (by rfl) (pa_cons (pv 0) pa_nil)) (pv 8) (nomark _)))).pt (pss_one (ps_ret pe_bl)) pss_nil)))
   (pss_one (ps_ret (pe_and (pe_cmpR (op_eqN hr.units) (pe_cal c_law_word (hr.mono (by decide)) (by rfl) (pa_cons (pv 0) (pa_cons pe_str pa_nil))) (pe_lstS pa_nil) (nomark _)) (pe_one (pe_cmpR (op_eqN hr.units) (pe_cal c_law_state (hr.mono (by decide)) (by rfl) (pa_cons (pv 0) pa_nil)) (pv 8) (nomark _))))))))))))))),
  (λF0 H0=>(sR_seq (sR_do (sS_set (sO_f (sF_op oS_addS sB_var (sB_f (sF_slS sF_str (sP_pt (sB_f (sF_op oS_i sB_var (sB_f sF_int)))) (sP_pt (sB_f (sF_op oS_i0 (sB_f (sF_op oS_i0 (sB_f (sF_op oS_i sB_var (sB_f sF_int))) (sB_f sF_int))) (sB_f (sF_op oS_i (sB_f (sF_op oS_i sB_var (sB_f sF_int))) (sB_f sF_int))))))))))))
   (sR_seq (sR_do (sS_set (sO_f sF_var)))
   (sR_seq (sR_do (sS_if (sT_test (sF_op oS_eq (sB_f (sF_op oS_i (sB_f (sF_op oS_i sB_var (sB_f sF_int))) (sB_f sF_int))) (sB_f sF_int))) (sS_set (sO_f sF_var)) sS_next))
   (sR_seq (sR_do (sS_set (sO_f (sF_op oS_i (sB_f (sF_op oS_i sB_var (sB_f sF_int))) (sB_f (sF_op oS_i0 (sB_f (sF_cb cS_lenS (sAB_cons sB_var sAB_nil))) (sB_f sF_int)))))))
   (sR_seq (sR_do (sS_set (sO_f (sF_op oS_addS (sB_f (sF_op oS_addS (sB_f (sF_slS sF_var sP_no (sP_pt sB_var))) (sB_op (OpF.b oF_ixL) (sB_f (sF_o (sO_lst (sAO_cons (sO_f sF_str) (sAO_cons (sO_f sF_str) (sAO_cons (sO_f sF_str) (sAO_cons (sO_f sF_str) (sAO_cons (sO_f sF_str) (sAO_cons (sO_f sF_str) (sAO_cons (sO_f sF_str) (sAO_cons (sO_f sF_str) (sAO_cons (sO_f sF_str) sAO_nil)))))))))))) (sB_f (sF_op oS_i (sB_f (sF_op oS_i sB_var (sB_f sF_int))) (sB_f sF_int)))))) (sB_f (sF_slS sF_var (sP_pt sB_var) sP_no))))))
   (sR_seq (sR_do (sS_set (sO_f (sF_o (sO_lst (sAO_cons (sO_f (sF_tup (sAF_cons sF_var (sAF_cons (sF_o (sO_catL (sF_o (sO_lst (sAO_cons (sO_f sF_bl) (sAO_cons (sO_f sF_bl) (sAO_cons (sO_f sF_bl) sAO_nil))))) (sF_o (sO_rep1 (sO_lst (sAO_cons (sO_f sF_bl) sAO_nil)) (sB_f sF_int))))) sAF_nil)))) (sAO_cons (sO_f (sF_tup (sAF_cons sF_var (sAF_cons (sF_o (sO_catL (sF_o (sO_lst (sAO_cons (sO_f sF_bl) (sAO_cons (sO_f sF_bl) (sAO_cons (sO_f sF_bl) sAO_nil))))) (sF_o (sO_rep1 (sO_lst (sAO_cons (sO_f sF_bl) sAO_nil)) (sB_f sF_int))))) sAF_nil)))) sAO_nil)))))))
   (sR_seq (sR_do (sS_set (sO_f (sF_o (sO_callB (sAB_cons sB_var sAB_nil))))))
   (sR_seq (sR_do (sS_if (sT_test (sF_op oS_eq (sB_f (sF_op oS_i (sB_f (sF_op oS_i sB_var (sB_f sF_int))) (sB_f sF_int))) (sB_f sF_int))) (sS_set (sO_f (sF_o (sO_lst (sAO_cons (sO_f (sF_opF oF_ixL sF_var sF_int)) (sAO_cons (sO_f (sF_opF oF_ixL sF_var sF_int)) sAO_nil)))))) sS_next))
   (sR_seq (sR_do (sS_for (sI_list sF_var) (sG_tup (sGs_cons sG_name (sGs_cons sG_name sGs_nil))) (sS_ifE (tf_or (tf_test (ef_op oS_neN (ef_call (sAF_cons sF_var sAF_nil)) sB_var)) (tf_t (sT_test (sF_op oS_neN (sB_f (sF_o (sO_callB (sAB_cons sB_var sAB_nil)))) sB_var)))) (sS_ret (sO_f sF_bl)) sS_next)))
   (sR_retE (ef_andV (ef_op oS_eqN (ef_call (sAF_cons sF_str sAF_nil)) (sB_f (sF_o (sO_lst sAO_nil)))) (ef_f (sF_op oS_eqN (sB_f (sF_o (sO_callB (sAB_cons sB_var sAB_nil)))) sB_var)))))))))))))),?_⟩)
 rintro a ts ds Pr X ⟨h,w,L,n,fs,bs,cs,u,v,c,rfl,rfl,R,hm,S,hc,F,hp,hv,k⟩
 refine rSeq_k λN hN=>?_
 fin2
 have st:∀Q:OV->Prop,Q (stO bs u)->sp_law_state [D.obj "Reader" ns_Reader (List.map OV.val (rd h w L n fs bs u))] Q:=λQ q=>⟨h,w,L,n,fs,bs,u,by unfold rdD;rw[OV.vals_eq],hm,S,q⟩
 obtain⟨xs,ex,x1,x2⟩:=tens c
 rw[ex,<- strOf_app,strOf_len,strOf_len]
 refine⟨by decide,by omega,?_⟩
 gp_on
 refine rSeq_k λN hN=>?_
 fin2
 gp_on
 refine rSeq_k λN hN=>?_
 have c1 : ∀ls:List Bool,ls.length<=200000->N [some (.own (.ob (some a) "Reader" ns_Reader (rd h w L n fs bs u))),vD (.str (strOf cs)),vI c,vD (.str (strOf (cs++xs))),vD (.str (strOf ls)),none,none,none,none,none,none]:=by
  intro ls hl
  gp_on
  refine rSeq_k λN hN=>?_
  fin2
  rw[strOf_len]
  obtain⟨j,ej,hj⟩:∃j:Nat,c / 162%((ls.length:Int)+1)=j/\j<=ls.length:=⟨(c / 162%((ls.length:Int)+1)).toNat,by
   have:=emod_nonneg (c / 162) (show (ls.length:Int)+1≠0 by omega)
   omega,by
   have:=emod_lt_of_pos (c / 162) (show 0<(ls.length:Int)+1 by omega)
   omega⟩
  rw[ej]
  refine⟨by omega,by omega,?_⟩
  gp_on
  refine rSeq_k λN hN=>?_
  fin2
  obtain⟨x,hx,ax⟩:=nine (c / 729%9) (by omega) (by omega)
  have le:(Txt.slice (strOf ls) (some (j:Int)) none).length<=200000:=by
   rw[str_fromC,strOf_len,length_drop,length_take]
   omega
  have lf:(Txt.slice (strOf ls) none (some (j:Int))).length<=200000:=by
   rw[str_take ls hj,strOf_len,length_take]
   omega
  generalize Txt.slice (strOf ls) (some (j:Int)) none=y at le
  generalize Txt.slice (strOf ls) none (some (j:Int))=z at lf
  rw[strOf_len]
  refine⟨by omega,_,ax,?_⟩
  dsimp only
  have hod:=odd_strip hx (a:=z) (b:=y)
  have hol:(z++tx [x]++y).length<=500000:=by
   rw[app_len,app_len,show (tx [x]).length=1 from rfl]
   omega
  rw[<- app_len,<- app_len]
  refine⟨by rw[app_len,show (tx [x]).length=1 from rfl];omega,by omega,by omega,?_⟩
  generalize z++tx [x]++y=od at hod hol
  clear ax hx lf le
  gp_on
  refine rSeq_k λN hN=>?_
  fin2
  gp_on
  refine rSeq_k λN hN=>?_
  fin2
  refine st _ ?_
  rw[st_val]
  refine⟨st_lf,?_⟩
  gp_on
  refine rSeq_k λN hN=>?_
  have c2:∀q:List (Str×D),q.length<=2->(∀p∈q,(Txt.stripChars p.1 (Str.ofString "01")≠Str.ofString ""/\p.1.length<=500000/\p.2=kdB)∨(p.1=strOf (cs++xs)/\p.2=kdT))->N [some (.own (.ob (some a) "Reader" ns_Reader (rd h w L n fs bs u))),vD (.str (strOf cs)),vI c,vD (.str (strOf (cs++xs))),vD (.str (strOf ls)),vI j,vD (.str od),vD (.lst (q.map λp=>.tup [.str p.1,p.2])),vD (stD bs u),none,none]:=by
   intro q hq hg
   gp_on
   refine rSeq_k λN hN=>?_
   fin2
   refine⟨λi G=>∃o9 o10:Option Sl,G=[some (.own (.ob (some a) "Reader" ns_Reader (rd h w L n fs bs u))),vD (.str (strOf cs)),vI c,vD (.str (strOf (cs++xs))),vD (.str (strOf ls)),vI j,vD (.str od),vD (.lst (q.map λp=>.tup [.str p.1,p.2])),vD (stD bs u),o9,o10],⟨none,none,rfl⟩,?_,?_⟩
   .rintro i d G hd ⟨o9,o10,rfl⟩
    obtain⟨p,hp',rfl⟩:=mget hd
    have hb:=hg p (mem_of_getElem? hp')
    simp only[gT,gsCons,gsNil,gN,length_cons,length_nil,Nat.reduceAdd,true_and,set_cons_succ,set_cons_zero]
    fin2
    rcases hb with⟨b1,b2,b3⟩ | ⟨b1,b3⟩
    .rw [b3]
     refine⟨h,w,L,n,fs,bs,u,rfl,R,.inl ⟨_,rfl,b2,b1,?_⟩⟩
     dsimp only
     rw[if_pos rfl]
     refine⟨rfl,by decide,by decide,?_⟩
     rw[if_neg (by decide)]
     refine st _ ?_
     rw[st_val]
     refine⟨st_lf,rfl,st_fit,st_fit,?_⟩
     exact ne_go (D.eqb_refl st_fit) ⟨_,_,rfl⟩
    .rw [b3]
     refine⟨h,w,L,n,fs,bs,u,rfl,R,.inr ⟨cs++xs,v,by rw[b1],by rw[length_append];omega,fol_on F hp xs,.inl ⟨by rw[length_append];omega,?_⟩⟩⟩
     dsimp only
     rw[if_neg (by decide)]
     refine⟨rfl,by decide,by decide,?_⟩
     rw[if_neg (by decide)]
     refine st _ ?_
     rw[st_val]
     refine⟨st_lf,rfl,st_fit,st_fit,?_⟩
     exact ne_go (D.eqb_refl st_fit) ⟨_,_,rfl⟩
   .rintro G ⟨o9,o10,rfl⟩
    gp_on
    fin2
    refine⟨h,w,L,n,fs,bs,u,rfl,R,.inr ⟨[],u,by rw[strOf_nil,str_emp];rfl,zero_le _,.nil,.inr ⟨by rw[R.us,length_nil];omega,?_⟩⟩⟩
    rw[append_nil]
    refine⟨rfl,by decide,by decide,?_⟩
    refine st _ ?_
    rw[st_val]
    refine⟨st_lf,rfl,st_fit,st_fit,?_⟩
    rw[D.eqb_refl st_fit]
    exact k
  fin2
  split
  .refine c2 [(strOf (cs++xs),kdT),(od,kdB)] (Nat.le_refl 2) λp hp=>?_
   simp only[mem_cons,not_mem_nil,or_false]at hp
   rcases hp with rfl |rfl
   .exact .inr ⟨rfl,rfl⟩
   .exact .inl ⟨hod,hol,rfl⟩
  .refine c2 [(od,kdB),(strOf (cs++xs),kdT)] (Nat.le_refl 2) λp hp=>?_
   simp only[mem_cons,not_mem_nil,or_false]at hp
   rcases hp with rfl |rfl
   .exact .inl ⟨hod,hol,rfl⟩
   .exact .inr ⟨rfl,rfl⟩
 fin2
 split
 .exact c1 _ (by omega)
 .exact c1 _ (by rw[length_append];omega)
theorem whole_cut {m n:Nat}{bs:List Bool}(hm0:0<m)(hm:m<=400)(hn:n<=40)(hz:3*m*n<=bs.length):∃(v:Wk) (c:Nat),Fol (wk0 m n) bs v/\Shp m v/\v.us=c/\c<=bs.length/\v.pl<0/\Fol (wk0 m n) (bs.take c) v:=by
 obtain⟨q1,q2,q3,q4⟩:(wk0 m n).pl=(n:Int)-1/\(wk0 m n).re=[]/\(wk0 m n).us=0/\mu m (wk0 m n)<=3*m*n:=start_facts m n
 have hS0:Shp (m:Int) (wk0 m n):=start_shape (by omega) n
 obtain⟨v,c,g1,g2,g3,g4,g5,g6,_⟩:=fol_run hm0 (by omega) bs (wk0 m n) hS0 (by omega) (by rw[q2,length_nil];omega)
 have hp:v.pl<0:=by
  rcases Int.lt_or_le v.pl 0 with z |z
  .exact z
  .have:=mu_pos g2 z
   have:=g6 z
   omega
 obtain⟨u,a1,a2,a3,a4,a5,a6,a7,a8⟩:=cut_any (m:=m) (c:=c) hm0 (by omega) g1 hS0 (by omega) (by rw[q2,length_nil];omega) q3 g3
 have hu:u.pl<0:=by
  rw[decide_eq_true hp,decide_eq_true (show v.us<=(c:Int) by omega)]at a6
  exact of_decide_eq_true a6
 have e:=fol_det a3 (fol_stay hu _)
 subst e
 exact⟨v,c,g1,g2,by omega,g3,hp,a1⟩
theorem ok_law {f:Addr}{fd:FuncData}(Df:DefAt K mg "law" s_law f fd)(B:BltV mg)(KV:KitV K)(CV_Walk:ClsV K "Walk" ns_Walk)(CV_Reader:ClsV K "Reader" ns_Reader)(c_law_head:Cal P w K mg base "_law_head" 4 ["_law_script"] (spV K 1 sp_law_head))(c_law_bits:Cal P w K mg base "_law_bits" 1 ["_law_cells"] (spV K 1 sp_law_bits))(c_read:Cal P w K mg base "read" 7 ["bits","many","planes"] (spV K 3 sp_read))(c_law_cell_at:Cal P w K mg base "_law_cell_at" 1 ["_law_script","_law_k"] (spV K 2 sp_law_cell_at))(c_Reader___init__:CalK P w K mg base "Reader" 8 ["self","head"] (spM K 2 "Reader" ns_Reader sp_Reader___init__))(c_law_bad:Cal P w K mg base "_law_bad" 10 ["_law_reader","_law_rest","_law_cell"] (spR K 3 "Reader" ns_Reader sp_law_bad))(c_law_word:Cal P w K mg base "_law_word" 9 ["_law_reader","_law_bits_here"] (spR K 2 "Reader" ns_Reader sp_law_word))(c_law_state:Cal P w K mg base "_law_state" 3 ["_law_reader"] (spV K 1 sp_law_state))(c_law_whole:Cal P w K mg base "_law_whole" 1 ["_law_found"] (spV K 1 sp_law_whole)):
  FnOk P w K mg base CX0 11 f fd ["_law_script"] (spLawB K):=by
 refine law_okB Df sc_law (λc A o s H E hr=>⟨_,_,(pss_cons (ps_set (i:=1) sc_law.nd rfl (Or.inl rfl) (pe_cal c_law_head (hr.mono (by decide)) (by rfl) (pa_cons (pv 0) pa_nil)))
   (pss_cons (ps_set (i:=2) sc_law.nd rfl (Or.inl rfl) (pe_op op_mul (pe_ix ix_tup (pv 1) pe_int (λ_ _=>rfl)) (pe_ix ix_tup (pv 1) pe_int (λ_ _=>rfl))))
   (pss_cons (ps_set (i:=3) sc_law.nd rfl (Or.inl rfl) (pe_op op_add_str (pe_cal c_law_bits (hr.mono (by decide)) (by rfl) (pa_cons (pe_slice sl_listS (pv 0) (po_some pe_int) po_none) pa_nil)) (pe_op op_mulS pe_str (pe_op op_mul (pe_op op_mul pe_int (pv 2)) (pe_ix ix_tup (pv 1) pe_int (λ_ _=>rfl))))))
   (pss_cons (ps_set (i:=4) sc_law.nd rfl (Or.inl rfl) (pe_slice sl_str (pv 3) po_none (po_some (pe_ix ix_tup (pe_cal c_read (hr.mono (by decide)) (by rfl) (pa_cons (pv 3) (pa_cons (pv 2) (pa_cons (pe_ix ix_tup (pv 1) pe_int (λ_ _=>rfl)) pa_nil)))) pe_int (λ_ _=>rfl)))))
   (pss_cons (ps_set (i:=5) sc_law.nd rfl (Or.inl rfl) (pe_op op_mod (pe_cal c_law_cell_at (hr.mono (by decide)) (by rfl) (pa_cons (pv 0) (pa_cons pe_int pa_nil))) (pe_op op_add (pe_callB call_len_str (by rfl) B.len boot_len (pa_cons (pv 4) pa_nil)) pe_int)))
   (pss_cons (ps_set (i:=6) sc_law.nd rfl (Or.inl rfl) (pe_makN c_Reader___init__ (hr.mono (by decide)) (by rfl) (pa_cons (pv 1) pa_nil)))
   (pss_cons (ps_if (pt_not (pt_val (pe_cal c_law_bad (hr.mono (by decide)) (by rfl) (pa_cons (pv 6) (pa_cons (pv 4) (pa_cons (pe_cal c_law_cell_at (hr.mono (by decide)) (by rfl) (pa_cons (pv 0) (pa_cons pe_int pa_nil))) pa_nil)))))) (pss_one (ps_ret pe_bl)) pss_nil)
   (pss_cons (ps_if (pw_or (pt_cmpR (op_neN hr.units) (pe_cal c_law_word (hr.mono (by decide)) (by rfl) (pa_cons (pv 6) (pa_cons (pe_slice sl_str (pv 4) po_none (po_some (pv 5))) pa_nil))) (pe_lstS pa_nil) (nomark _)) (pw_or1 (pt_not (pt_val (pe_cal c_law_bad (hr.mono (by decide)) (by rfl) (pa_cons (pv 6) (pa_cons (pe_slice sl_str (pv 4) (po_some (pv 5)) po_none) (pa_cons (pe_cal c_law_cell_at (hr.mono (by decide)) (by rfl) (pa_cons (pv 0) (pa_cons pe_int pa_nil))) pa_nil)))))))).pt (pss_one (ps_ret pe_bl)) pss_nil)
   (pss_cons (ps_if (pw_or (pt_cmpR (op_neN hr.units) (pe_cal c_law_word (hr.mono (by decide)) (by rfl) (pa_cons (pv 6) (pa_cons (pe_slice sl_str (pv 4) (po_some (pv 5)) po_none) pa_nil))) (pe_lstS pa_nil) (nomark _)) (pw_or1 (pt_not (pt_val (pe_cal c_law_bad (hr.mono (by decide)) (by rfl) (pa_cons (pv 6) (pa_cons pe_str (pa_cons (pe_cal c_law_cell_at (hr.mono (by decide)) (by rfl) (pa_cons (pv 0) (pa_cons pe_int pa_nil))) pa_nil)))))))).pt (pss_one (ps_ret pe_bl)) pss_nil)
   (pss_cons (ps_set (i:=7) sc_law.nd rfl (Or.inl rfl) (pe_cal c_law_state (hr.mono (by decide)) (by rfl) (pa_cons (pv 6) pa_nil)))
   (pss_cons (ps_if (pw_or (pt_not (pt_truth (pe_cal c_law_whole (hr.mono (by decide)) (by rfl) (pa_cons (pe_ix ix_list (pv 7) pe_int (λ_ _=>rfl)) pa_nil)) (λ_=>rfl))) (pw_or1 (pt_not (pt_val (pe_callB call_isiD (by rfl) B.isinstance boot_isinstance (pa_cons (pe_ix ix_list (pv 7) pe_int (λ_ _=>rfl)) (pa_cons (pe_bltn (v:=.ty "bool") (by rfl) B.bool PyProof.Rows.boot_bool (by rfl)) pa_nil))))))).pt (pss_one (ps_ret pe_bl)) pss_nil)
   (pss_one (ps_ret (pe_and (pe_cmpR (op_eqA hr.units) (pe_ix ix_list (pv 7) pe_int (λ_ _=>rfl)) (pe_callB call_len_str (by rfl) B.len boot_len (pa_cons (pv 4) pa_nil)) (nomark _)) (pe_and (pe_ix ix_list (pv 7) pe_int (λ_ _=>rfl)) (pe_one (pe_cmpR (op_eqA hr.units) (pe_ix ix_list (pv 7) pe_int (λ_ _=>rfl)) (pe_ix ix_tup (pe_cal c_read (hr.mono (by decide)) (by rfl) (pa_cons (pv 4) (pa_cons (pv 2) (pa_cons (pe_ix ix_tup (pv 1) pe_int (λ_ _=>rfl)) pa_nil)))) pe_int (λ_ _=>rfl)) (nomark _)))))))))))))))))),
  (sS_seq (sS_set (sO_f (sF_o (sO_call (sAF_cons sF_var sAF_nil)))))
   (sS_seq (sS_set (sO_f (sF_op oS_i (sB_op (OpF.b oF_ixT) sB_var (sB_f sF_int)) (sB_op (OpF.b oF_ixT) sB_var (sB_f sF_int)))))
   (sS_seq (sS_set (sO_f (sF_op oS_addS (sB_f (sF_o (sO_call (sAF_cons (sF_o (sO_slL sF_var (sP_pt (sB_f sF_int)) sP_no)) sAF_nil)))) (sB_f (sF_op oS_mulS (sB_f sF_str) (sB_f (sF_op oS_i (sB_f (sF_op oS_i (sB_f sF_int) sB_var)) (sB_op (OpF.b oF_ixT) sB_var (sB_f sF_int)))))))))
   (sS_seq (sS_set (sO_f (sF_slS sF_var sP_no (sP_pt (sB_op (OpF.b oF_ixT) (sB_f (sF_o (sO_call (sAF_cons sF_var (sAF_cons sF_var (sAF_cons (sF_opF oF_ixT sF_var sF_int) sAF_nil)))))) (sB_f sF_int))))))
   (sS_seq (sS_set (sO_f (sF_op oS_i (sB_f (sF_o (sO_call (sAF_cons sF_var (sAF_cons sF_int sAF_nil))))) (sB_f (sF_op oS_i0 (sB_f (sF_cb cS_lenS (sAB_cons sB_var sAB_nil))) (sB_f sF_int))))))
   (sS_seq (sS_set (sO_make CV_Reader (sAF_cons sF_var sAF_nil)))
   (sS_seq (sS_ifE (tf_not (tf_b (ef_call (sAF_cons sF_var (sAF_cons (sF_o (sO_call (sAF_cons sF_var (sAF_cons sF_int sAF_nil)))) sAF_nil))))) (sS_ret (sO_f sF_bl)) sS_next)
   (sS_seq (sS_ifE (tf_or (tf_test (ef_op oS_neN (ef_call (sAF_cons (sF_slS sF_var sP_no (sP_pt sB_var)) sAF_nil)) (sB_f (sF_o (sO_lst sAO_nil))))) (tf_not (tf_b (ef_call (sAF_cons (sF_slS sF_var (sP_pt sB_var) sP_no) (sAF_cons (sF_o (sO_call (sAF_cons sF_var (sAF_cons sF_int sAF_nil)))) sAF_nil)))))) (sS_ret (sO_f sF_bl)) sS_next)
   (sS_seq (sS_ifE (tf_or (tf_test (ef_op oS_neN (ef_call (sAF_cons (sF_slS sF_var (sP_pt sB_var) sP_no) sAF_nil)) (sB_f (sF_o (sO_lst sAO_nil))))) (tf_not (tf_b (ef_call (sAF_cons sF_str (sAF_cons (sF_o (sO_call (sAF_cons sF_var (sAF_cons sF_int sAF_nil)))) sAF_nil)))))) (sS_ret (sO_f sF_bl)) sS_next)
   (sS_seq (sS_set (sO_f (sF_o (sO_callB (sAB_cons sB_var sAB_nil)))))
   (sS_seq (sS_if (sT_or (sT_not (sT_truth (sB_f (sF_o (sO_call (sAF_cons (sF_opF oF_ixL sF_var sF_int) sAF_nil)))))) (sT_not (sT_b (sF_cb (cS_isi KV) (sAB_cons (sB_op (OpF.b oF_ixL) sB_var (sB_f sF_int)) (sAB_cons (sB_f sF_ty) sAB_nil)))))) (sS_ret (sO_f sF_bl)) sS_next)
   (sS_ret (sO_f (sF_andV (sF_op oS_eqA (sB_op (OpF.b oF_ixL) sB_var (sB_f sF_int)) (sB_f (sF_cb cS_lenS (sAB_cons sB_var sAB_nil)))) (sF_andV (sF_opF oF_ixL sF_var sF_int) (sF_op oS_eqA (sB_op (OpF.b oF_ixL) sB_var (sB_f sF_int)) (sB_op (OpF.b oF_ixT) (sB_f (sF_o (sO_call (sAF_cons sF_var (sAF_cons sF_var (sAF_cons (sF_opF oF_ixT sF_var sF_int) sAF_nil)))))) (sB_f sF_int)))))))))))))))))),?_⟩)
 intro ns hns hb
 gn_on
 refine⟨ns,rfl,λh w L n fs hd hhw hn=>?_⟩
 fin2
 have hd':=hd
 obtain⟨⟨h1,h2⟩,⟨w1,w2⟩,hL,_,hf,ok⟩:=hd'
 have hhw0:0<h*w:=Nat.mul_pos (by omega) (by omega)
 gp_on
 gn_on
 refine⟨.inl ⟨by omega,by omega⟩,?_⟩
 rw[<- natCast_mul]
 gp_on
 gn_on
 rw[show L2.cutD (ns.map D.int) (some 8) none=(ns.map D.int).drop 8 from cut_from _ 8,<- map_drop]
 refine⟨ns.drop 8,by rw[map_map,show (OV.val∘OV.fz:D->D)=id from rfl,map_id],by rw[length_drop];omega,λbs0 hb0=>?_⟩
 fin2
 obtain⟨z,ez⟩:∃z:Nat,z=3*(h*w)*n:=⟨_,rfl⟩
 have hz:z<=48000:=by
  rw[ez]
  have:=Nat.mul_le_mul (Nat.mul_le_mul_left 3 hhw) hn
  omega
 rw[show (3:Int)*((h*w:Nat):Int)*(n:Int)=(z:Int) by rw[ez];simp only[natCast_mul];rfl]
 rw[show repS (Str.ofString "0") (z:Int)=strOf (List.replicate z false) from rep_bit false z,<- strOf_app,strOf_len,strOf_len]
 refine⟨.inr ⟨by omega,by omega⟩,by omega,by omega,by rw[show (Str.ofString "0").length=1 from rfl];omega,by rw[length_replicate];omega,?_⟩
 have hbz:3*(h*w)*n<=(bs0++List.replicate z false).length:=by rw[length_append,length_replicate];omega
 have hbl:(bs0++List.replicate z false).length<=60000:=by rw[length_append,length_replicate];omega
 generalize bs0++List.replicate z false=bs at hbz hbl
 obtain⟨v,c,F0,S,hus,hc,hp,F⟩:=whole_cut hhw0 hhw hn hbz
 have tv:=shp_small S (by omega)
 gp_on
 gn_on
 refine⟨bs,_,n,v,rfl,by omega,F0,tv.1,tv.2.1,by omega,tv.2.2.2,?_⟩
 fin2
 refine⟨by rw[strOf_len];omega,?_⟩
 rw[hus,str_take bs hc]
 have hfl:(bs.take c).length=c:=by rw[length_take];omega
 generalize bs.take c=fd at hfl F
 have hfb:fd.length<=60000:=by omega
 have hus:v.us=fd.length:=by omega
 clear F0 hbz hbl hc hfl
 gp_on
 gn_on
 refine⟨ns,3,rfl,by decide,?_⟩
 fin2
 rw[strOf_len]
 obtain⟨f,ef,hff⟩:∃j:Nat,ns.getD 3 0%((fd.length:Int)+1)=j/\j<=fd.length:=⟨(ns.getD 3 0%((fd.length:Int)+1)).toNat,by
  have:=emod_nonneg (ns.getD 3 0) (show (fd.length:Int)+1≠0 by omega)
  omega,by
  have:=emod_lt_of_pos (ns.getD 3 0) (show 0<(fd.length:Int)+1 by omega)
  omega⟩
 rw[ef]
 refine⟨by omega,by omega,?_⟩
 gp_on
 gn_on
 refine⟨h,w,L,n,fs,rfl,rfl,hd,?_⟩
 gp_on
 obtain⟨u1,A1⟩:=atb_ex hhw0 hhw (by omega) F hus hff
 obtain⟨q1,q2,q3,_⟩:(wk0 (h*w) n).pl=(n:Int)-1/\(wk0 (h*w) n).re=[]/\(wk0 (h*w) n).us=0/\_:=start_facts (h*w) n
 have S0:Shp ((h*w:Nat):Int) (wk0 (h*w) n):=start_shape (by omega) n
 have R0:Rd h w L n fs [] (wk0 (h*w) n):=⟨hd,.nil,q3,zero_le _⟩
 have hf1:(fd.take f).length=f:=by rw[length_take];omega
 have hf2:(fd.drop f).length=fd.length-f:=length_drop
 have R1:Rd h w L n fs (fd.take f) u1:=⟨hd,A1.f,by rw[A1.us,hf1],by omega⟩
 have R2:Rd h w L n fs fd v:=⟨hd,F,hus,by omega⟩
 have F1:Fol u1 (fd.drop f) v:=by
  have:=cut_more (m:=h*w) (d:=fd.length) hhw0 (by omega) hff A1.f A1.s A1.p5 A1.re (by rw[take_length];exact F)
  rw[take_length]at this
  exact this
 gn_on
 refine⟨ns,4,rfl,by decide,?_⟩
 fin2
 refine⟨h,w,L,n,fs,[],fd,wk0 (h*w) n,v,_,rfl,rfl,R0,hhw,S0,by omega,F,hp,by rw[length_nil];omega,?_⟩
 fin2
 gp_on
 gn_on
 have slF:Txt.slice (strOf fd) (some (f:Int)) none=strOf (fd.drop f):=by rw[str_fromC,take_length,min_eq_left hff]
 rw[str_take fd hff,slF,strOf_len]
 refine⟨by omega,h,w,L,n,fs,[],wk0 (h*w) n,rfl,R0,.inr ⟨fd.take f,u1,rfl,by omega,A1.f,.inr ⟨by rw[length_nil,A1.us];omega,rfl,by decide,by decide,ne_go rfl ⟨by omega,ns,5,rfl,by decide,?_⟩⟩⟩⟩
 refine⟨h,w,L,n,fs,fd.take f,fd.drop f,u1,v,_,by rw[nil_append],rfl,R1,hhw,A1.s,by omega,F1,hp,by rw[hf1,hf2];omega,?_⟩
 fin2
 gp_on
 gn_on
 rw[slF,strOf_len]
 refine⟨by omega,h,w,L,n,fs,fd.take f,u1,rfl,R1,.inr ⟨fd.drop f,v,rfl,by omega,F1,.inr ⟨by rw[hf1,hf2];omega,rfl,by decide,by decide,ne_go rfl ⟨ns,6,rfl,by decide,?_⟩⟩⟩⟩
 refine⟨h,w,L,n,fs,fd,[],v,v,_,by rw[take_append_drop],by rw[strOf_nil,str_emp];rfl,R2,hhw,S,zero_le _,.nil,hp,by rw[length_nil];omega,?_⟩
 fin2
 gp_on
 gn_on
 refine⟨h,w,L,n,fs,fd,v,by unfold rdD;rw[OV.vals_eq],hhw,S,?_⟩
 try dsimp only
 rw[st_val]
 refine⟨st_lf,?_⟩
 unfold stD
 gp_on
 gn_on
 simp only[sp_law_whole]
 fin2
 gp_on
 fin2
 rw[strOf_len]
 refine⟨by omega,.inl ?_⟩
 fin2
 rw[if_pos hp]
 refine⟨fd,_,n,v,rfl,by omega,F,tv.1,tv.2.1,by omega,tv.2.2.2,?_⟩
 fin2
 refine .inr ?_
 rw[spans_Q]
 refine⟨rfl,fit_sps,fit_sps,?_⟩
 rw[D.eqb_refl fit_sps]
end
theorem all_mk {l:PySem.W.OpenLaw}{w:World}{K:Frag}{h:Heap}{mg:Str->Option Value}{fa:Addr}(X:K.In h)(δ:h.Ns mainGlobals mg)(hfa:mg "law"=some (.ref fa))
 {f1 f2 f3 f4 f5 f6 f7 f8 f9 qu qk ri ro rg qo qm rc f18 f19 ui f21 zg qz qr qy rn qj zp f29 yo uf f32 uj f34 xy f36 f37 f38 sy:Addr}
 {od1 an1 od2 an2 od3 an3 od4 an4 od5 an5 od6 an6 od7 an7 od8 an8 od9 an9 ji1 yl xl jh0 jh9 su uc ja0 je4 jl5 jc0 yd zt je5 vq xc ja7 yf jk9 wq jg2 wa jj8 jg0 xb vc ja5 jj4 ji2 ji7 jh1 jn4 jf4 xm jh2 xf je6 vx jm8 jd7 ji6 ji5 vi jj2 jb7 jd0 jd8 jb0 vm v5 u8 si jk0 jj7 jn0 jf7 vt tf jb1 qh:Option Addr}
 {sl1 sl2 sl3 sl4 sl5 sl6 sl7 sl8 sl9 jo2 xi jl1 u7 td v3 jd3 jk8 jh7 jj9 uu jj5 ja8 uw se jm4 ya jf0 sf jg5 ja4 uv wo u6 je3 jo0 ji9 yb jl6 jk5:Array (Option Value)}
 {oc1 kV1 dc1 pm1 cd1 ct1 oc2 kV2 dc2 pm2 cd2 ct2 oc3 kV3 dc3 pm3 cd3 ct3 oc4 kV4 dc4 pm4 cd4 ct4 oc5 kV5 dc5 pm5 cd5 ct5 oc6 kV6 dc6 pm6 cd6 ct6 oc7 kV7 dc7 pm7 cd7 ct7 oc8 kV8 dc8 pm8 cd8 ct8 oc9 kV9 dc9 pm9 cd9 ct9 jg1 wf zq jd4 pj xg zk jf3 je1 jm6 qb jf9 ym jb3 wc jn2 qf zb jo1 jc5 jb5 vz pq jb8 yu xp zi jd2 qe jc7 ji0 jm7 jf5 jl7 qd jm1 jo4 zl zd jm3 qg z0 ye jf2 wg xu pe jl2 y0 wj jc3 jn8 pz jg6 wu ww ji4 je9 pw jk7 yt jn3 jn6 wn ou ja1 je2 jl9 vd jh8 pp jm9 tj wz jm5 jl0 ow zv jf1 ji3 jl3 v8 ot jg8 x9 je7 u0 jn1 pi jo3 jc1 wy jj0 jd1 p6 ja2 jh3 je8 u9 jd5 o7 we wt jc2 jj3 yq oz ja9 yy jg4 jl8 jk2 p7 jk6 jd9 jj6 jn5 jf8 py y9 jb6 ja3 jh4 xa o8 jk1 jm0 yw jb4 jm2 oj zr jg3 jn7 vn xz oo jn9 ji8 uo zw je0 om ul jk4 ve zh jg9 oy jo5 jj1 jc4 ja6 jd6 ph jh5 jb2 jc8 jg7 jc6 qc wl jh6 jb9 jk3 jf6 p8 yg sw jc9 uy ze oi ug jl4 oq pf p9 oh pk:Value}
  {ai:Addr} (ak:nsIn K mainGlobals "Walk"=some (some (.ref ai))) (au:plainGet K ai Str.empty=true) (ba:PySem.W.hasDictIn K ai=true) (bd:plainOver K ai=true) (ar:PySem.W.findIn K (.ref ai) "__setattr__"=some (some (.builtin "object.__setattr__"))) (kz:makesIn K ai=true) (kv:keepIn K (.ref ai)=true) (ke:PySem.W.findIn K (.ref ai) "plane"=some none) (ka:PySem.W.findIn K (.ref ai) "used"=some none) (j7:PySem.W.findIn K (.ref ai) "row_ends"=some none) (kc:PySem.W.findIn K (.ref ai) "walked"=some none) (kf:PySem.W.findIn K (.ref ai) "ahead"=some none)
  {af:Addr} (ao:nsIn K mainGlobals "Reader"=some (some (.ref af))) (bh:plainGet K af Str.empty=true) (bo:PySem.W.hasDictIn K af=true) (bj:plainOver K af=true) (bi:PySem.W.findIn K (.ref af) "__setattr__"=some (some (.builtin "object.__setattr__"))) (im:makesIn K af=true) (iy:keepIn K (.ref af)=true) (ge:PySem.W.findIn K (.ref af) "head"=some none) (fq:PySem.W.findIn K (.ref af) "fed"=some none) (fc:PySem.W.findIn K (.ref af) "walk"=some none)
 (a1:nsIn K mainGlobals "is_number"=some (some (.ref f1))) (l1:K.lookup f1=some ⟨oc1,od1,.func (fnOf "is_number" "is_number" (defArgs s_is_number) (defBody s_is_number) (defScope s_is_number) .none kV1 dc1 pm1 an1 cd1 ct1),sl1⟩) (d1:codeIn K cd1 "is_number"=true) (k1:keepIn K (.ref f1)=true)
  (a2:nsIn K mainGlobals "holds"=some (some (.ref f2))) (l2:K.lookup f2=some ⟨oc2,od2,.func (fnOf "holds" "holds" (defArgs s_holds) (defBody s_holds) (defScope s_holds) .none kV2 dc2 pm2 an2 cd2 ct2),sl2⟩) (d2:codeIn K cd2 "holds"=true) (k2:keepIn K (.ref f2)=true)
  (a3:nsIn K mainGlobals "is_lift"=some (some (.ref f3))) (l3:K.lookup f3=some ⟨oc3,od3,.func (fnOf "is_lift" "is_lift" (defArgs s_is_lift) (defBody s_is_lift) (defScope s_is_lift) .none kV3 dc3 pm3 an3 cd3 ct3),sl3⟩) (d3:codeIn K cd3 "is_lift"=true) (k3:keepIn K (.ref f3)=true)
  (a4:nsIn K mainGlobals "is_ladder"=some (some (.ref f4))) (l4:K.lookup f4=some ⟨oc4,od4,.func (fnOf "is_ladder" "is_ladder" (defArgs s_is_ladder) (defBody s_is_ladder) (defScope s_is_ladder) .none kV4 dc4 pm4 an4 cd4 ct4),sl4⟩) (d4:codeIn K cd4 "is_ladder"=true) (k4:keepIn K (.ref f4)=true)
  (a5:nsIn K mainGlobals "part_of_one"=some (some (.ref f5))) (l5:K.lookup f5=some ⟨oc5,od5,.func (fnOf "part_of_one" "part_of_one" (defArgs s_part_of_one) (defBody s_part_of_one) (defScope s_part_of_one) .none kV5 dc5 pm5 an5 cd5 ct5),sl5⟩) (d5:codeIn K cd5 "part_of_one"=true) (k5:keepIn K (.ref f5)=true)
  (a6:nsIn K mainGlobals "calm_span"=some (some (.ref f6))) (l6:K.lookup f6=some ⟨oc6,od6,.func (fnOf "calm_span" "calm_span" (defArgs s_calm_span) (defBody s_calm_span) (defScope s_calm_span) .none kV6 dc6 pm6 an6 cd6 ct6),sl6⟩) (d6:codeIn K cd6 "calm_span"=true) (k6:keepIn K (.ref f6)=true)
  (a7:nsIn K mainGlobals "signed_span"=some (some (.ref f7))) (l7:K.lookup f7=some ⟨oc7,od7,.func (fnOf "signed_span" "signed_span" (defArgs s_signed_span) (defBody s_signed_span) (defScope s_signed_span) .none kV7 dc7 pm7 an7 cd7 ct7),sl7⟩) (d7:codeIn K cd7 "signed_span"=true) (k7:keepIn K (.ref f7)=true)
  (a8:nsIn K mainGlobals "figured_span"=some (some (.ref f8))) (l8:K.lookup f8=some ⟨oc8,od8,.func (fnOf "figured_span" "figured_span" (defArgs s_figured_span) (defBody s_figured_span) (defScope s_figured_span) .none kV8 dc8 pm8 an8 cd8 ct8),sl8⟩) (d8:codeIn K cd8 "figured_span"=true) (k8:keepIn K (.ref f8)=true)
  (a9:PySem.W.findIn K (.ref ai) "__init__"=some (some (.ref f9))) (i9:isFn K (.ref f9)=true) (l9:K.lookup f9=some ⟨oc9,od9,.func (fnOf "__init__" "Walk.__init__" (defArgs s_Walk___init__) (defBody s_Walk___init__) (defScope s_Walk___init__) .none kV9 dc9 pm9 an9 cd9 ct9),sl9⟩) (d9:codeIn K cd9 "Walk.__init__"=true) (k9:keepIn K (.ref f9)=true)
  (sj:PySem.W.findIn K (.ref ai) "turn"=some (some (.ref qu))) (sq:isFn K (.ref qu)=true) (l10:K.lookup qu=some ⟨jg1,ji1,.func (fnOf "turn" "Walk.turn" (defArgs s_Walk_turn) (defBody s_Walk_turn) (defScope s_Walk_turn) .none wf zq jd4 yl pj xg),jo2⟩) (d10:codeIn K pj "Walk.turn"=true) (q9:keepIn K (.ref qu)=true)
  (a11:PySem.W.findIn K (.ref ai) "is_whole"=some (some (.ref qk))) (sv:isFn K (.ref qk)=true) (l11:K.lookup qk=some ⟨zk,xl,.func (fnOf "is_whole" "Walk.is_whole" (defArgs s_Walk_is_whole) (defBody s_Walk_is_whole) (defScope s_Walk_is_whole) .none jf3 je1 jm6 jh0 qb jf9),xi⟩) (zc:codeIn K qb "Walk.is_whole"=true) (rh:keepIn K (.ref qk)=true)
  (ue:PySem.W.findIn K (.ref ai) "spans"=some (some (.ref ri))) (xx:isFn K (.ref ri)=true) (l12:K.lookup ri=some ⟨ym,jh9,.func (fnOf "spans" "Walk.spans" (defArgs s_Walk_spans) (defBody s_Walk_spans) (defScope s_Walk_spans) .none jb3 wc jn2 su qf zb),jl1⟩) (xh:codeIn K qf "Walk.spans"=true) (rj:keepIn K (.ref ri)=true)
  (a13:PySem.W.findIn K (.ref ai) "follow"=some (some (.ref ro))) (i13:isFn K (.ref ro)=true) (l13:K.lookup ro=some ⟨jo1,uc,.func (fnOf "follow" "Walk.follow" (defArgs s_Walk_follow) (defBody s_Walk_follow) (defScope s_Walk_follow) .none jc5 jb5 vz ja0 pq jb8),u7⟩) (xw:codeIn K pq "Walk.follow"=true) (rm:keepIn K (.ref ro)=true)
  (ur:PySem.W.findIn K (.ref ai) "take"=some (some (.ref rg))) (vh:isFn K (.ref rg)=true) (l14:K.lookup rg=some ⟨yu,je4,.func (fnOf "take" "Walk.take" (defArgs s_Walk_take) (defBody s_Walk_take) (defScope s_Walk_take) .none xp zi jd2 jl5 qe jc7),td⟩) (v6:codeIn K qe "Walk.take"=true) (qp:keepIn K (.ref rg)=true)
  (a15:PySem.W.findIn K (.ref ai) "walk_awake"=some (some (.ref qo))) (i15:isFn K (.ref qo)=true) (l15:K.lookup qo=some ⟨ji0,jc0,.func (fnOf "walk_awake" "Walk.walk_awake" (defArgs s_Walk_walk_awake) (defBody s_Walk_walk_awake) (defScope s_Walk_walk_awake) .none jm7 jf5 jl7 yd qd jm1),v3⟩) (va:codeIn K qd "Walk.walk_awake"=true) (rl:keepIn K (.ref qo)=true)
  (vo:PySem.W.findIn K (.ref ai) "wake"=some (some (.ref qm))) (i16:isFn K (.ref qm)=true) (wv:K.lookup qm=some ⟨jo4,zt,.func (fnOf "wake" "Walk.wake" (defArgs s_Walk_wake) (defBody s_Walk_wake) (defScope s_Walk_wake) .none zl zd jm3 je5 qg z0),jd3⟩) (yh:codeIn K qg "Walk.wake"=true) (rk:keepIn K (.ref qm)=true)
  (a17:PySem.W.findIn K (.ref ai) "calm"=some (some (.ref rc))) (i17:isFn K (.ref rc)=true) (l17:K.lookup rc=some ⟨ye,vq,.func (fnOf "calm" "Walk.calm" (defArgs s_Walk_calm) (defBody s_Walk_calm) (defScope s_Walk_calm) .none jf2 wg xu xc pe jl2),jk8⟩) (zx:codeIn K pe "Walk.calm"=true) (rf:keepIn K (.ref rc)=true)
  (a18:nsIn K mainGlobals "followed"=some (some (.ref f18))) (x6:K.lookup f18=some ⟨y0,ja7,.func (fnOf "followed" "followed" (defArgs s_followed) (defBody s_followed) (defScope s_followed) .none wj jc3 jn8 yf pz jg6),jh7⟩) (d18:codeIn K pz "followed"=true) (k18:keepIn K (.ref f18)=true)
  (a19:nsIn K mainGlobals "read"=some (some (.ref f19))) (u3:K.lookup f19=some ⟨wu,jk9,.func (fnOf "read" "read" (defArgs s_read) (defBody s_read) (defScope s_read) .none ww ji4 je9 wq pw jk7),jj9⟩) (y8:codeIn K pw "read"=true) (k19:keepIn K (.ref f19)=true)
  (a20:nsIn K mainGlobals "is_part"=some (some (.ref ui))) (l20:K.lookup ui=some ⟨yt,jg2,.func (fnOf "is_part" "is_part" (defArgs s_is_part) (defBody s_is_part) (defScope s_is_part) .none jn3 jn6 wn wa ou ja1),uu⟩) (za:codeIn K ou "is_part"=true) (k20:keepIn K (.ref ui)=true)
  (a21:nsIn K mainGlobals "is_head"=some (some (.ref f21))) (ut:K.lookup f21=some ⟨je2,jj8,.func (fnOf "is_head" "is_head" (defArgs s_is_head) (defBody s_is_head) (defScope s_is_head) .none jl9 vd jh8 jg0 pp jm9),jj5⟩) (d21:codeIn K pp "is_head"=true) (k21:keepIn K (.ref f21)=true)
  (vg:nsIn K mainGlobals "walk_of"=some (some (.ref zg))) (l22:K.lookup zg=some ⟨tj,xb,.func (fnOf "walk_of" "walk_of" (defArgs s_walk_of) (defBody s_walk_of) (defScope s_walk_of) .none wz jm5 jl0 vc ow zv),ja8⟩) (vv:codeIn K ow "walk_of"=true) (k22:keepIn K (.ref zg)=true)
  (a23:PySem.W.findIn K (.ref af) "__init__"=some (some (.ref qz))) (zj:isFn K (.ref qz)=true) (l23:K.lookup qz=some ⟨jf1,ja5,.func (fnOf "__init__" "Reader.__init__" (defArgs s_Reader___init__) (defBody s_Reader___init__) (defScope s_Reader___init__) .none ji3 jl3 v8 jj4 ot jg8),uw⟩) (uh:codeIn K ot "Reader.__init__"=true) (k23:keepIn K (.ref qz)=true)
  (a24:PySem.W.findIn K (.ref af) "feed"=some (some (.ref qr))) (rq:isFn K (.ref qr)=true) (yr:K.lookup qr=some ⟨x9,ji2,.func (fnOf "feed" "Reader.feed" (defArgs s_Reader_feed) (defBody s_Reader_feed) (defScope s_Reader_feed) .none je7 u0 jn1 ji7 pi jo3),se⟩) (vb:codeIn K pi "Reader.feed"=true) (qv:keepIn K (.ref qr)=true)
  (a25:PySem.W.findIn K (.ref af) "many"=some (some (.ref qy))) (i25:isFn K (.ref qy)=true) (xq:K.lookup qy=some ⟨jc1,jh1,.func (fnOf "many" "Reader.many" (defArgs s_Reader_many) (defBody s_Reader_many) (defScope s_Reader_many) .none wy jj0 jd1 jn4 p6 ja2),jm4⟩) (yc:codeIn K p6 "Reader.many"=true) (qi:keepIn K (.ref qy)=true)
  (wm:PySem.W.findIn K (.ref af) "is_whole"=some (some (.ref rn))) (zm:isFn K (.ref rn)=true) (v7:K.lookup rn=some ⟨jh3,jf4,.func (fnOf "is_whole" "Reader.is_whole" (defArgs s_Reader_is_whole) (defBody s_Reader_is_whole) (defScope s_Reader_is_whole) .none je8 u9 jd5 xm o7 we),ya⟩) (zu:codeIn K o7 "Reader.is_whole"=true) (qw:keepIn K (.ref rn)=true)
  (a27:PySem.W.findIn K (.ref af) "spans"=some (some (.ref qj))) (i27:isFn K (.ref qj)=true) (l27:K.lookup qj=some ⟨wt,jh2,.func (fnOf "spans" "Reader.spans" (defArgs s_Reader_spans) (defBody s_Reader_spans) (defScope s_Reader_spans) .none jc2 jj3 yq xf oz ja9),jf0⟩) (d27:codeIn K oz "Reader.spans"=true) (qt:keepIn K (.ref qj)=true)
  (tq:nsIn K mainGlobals "_law_cell_at"=some (some (.ref zp))) (l28:K.lookup zp=some ⟨yy,je6,.func (fnOf "_law_cell_at" "_law_cell_at" (defArgs s_law_cell_at) (defBody s_law_cell_at) (defScope s_law_cell_at) .none jg4 jl8 jk2 vx p7 jk6),sf⟩) (xv:codeIn K p7 "_law_cell_at"=true) (r9:keepIn K (.ref zp)=true)
  (a29:nsIn K mainGlobals "_law_whole"=some (some (.ref f29))) (l29:K.lookup f29=some ⟨jd9,jm8,.func (fnOf "_law_whole" "_law_whole" (defArgs s_law_whole) (defBody s_law_whole) (defScope s_law_whole) .none jj6 jn5 jf8 jd7 py y9),jg5⟩) (tt:codeIn K py "_law_whole"=true) (uz:keepIn K (.ref f29)=true)
  (a30:nsIn K mainGlobals "_law_spread"=some (some (.ref yo))) (l30:K.lookup yo=some ⟨jb6,ji6,.func (fnOf "_law_spread" "_law_spread" (defArgs s_law_spread) (defBody s_law_spread) (defScope s_law_spread) .none ja3 jh4 xa ji5 o8 jk1),ja4⟩) (vj:codeIn K o8 "_law_spread"=true) (u4:keepIn K (.ref yo)=true)
  (a31:nsIn K mainGlobals "_law_ladder"=some (some (.ref uf))) (l31:K.lookup uf=some ⟨jm0,vi,.func (fnOf "_law_ladder" "_law_ladder" (defArgs s_law_ladder) (defBody s_law_ladder) (defScope s_law_ladder) .none yw jb4 jm2 jj2 oj zr),uv⟩) (vp:codeIn K oj "_law_ladder"=true) (k31:keepIn K (.ref uf)=true)
  (a32:nsIn K mainGlobals "_law_sizes"=some (some (.ref f32))) (vy:K.lookup f32=some ⟨jg3,jb7,.func (fnOf "_law_sizes" "_law_sizes" (defArgs s_law_sizes) (defBody s_law_sizes) (defScope s_law_sizes) .none jn7 vn xz jd0 oo jn9),wo⟩) (d32:codeIn K oo "_law_sizes"=true) (w9:keepIn K (.ref f32)=true)
  (a33:nsIn K mainGlobals "_law_how"=some (some (.ref uj))) (yz:K.lookup uj=some ⟨ji8,jd8,.func (fnOf "_law_how" "_law_how" (defArgs s_law_how) (defBody s_law_how) (defScope s_law_how) .none uo zw je0 jb0 om ul),u6⟩) (d33:codeIn K om "_law_how"=true) (yn:keepIn K (.ref uj)=true)
  (u5:nsIn K mainGlobals "_law_head"=some (some (.ref f34))) (zf:K.lookup f34=some ⟨jk4,vm,.func (fnOf "_law_head" "_law_head" (defArgs s_law_head) (defBody s_law_head) (defScope s_law_head) .none ve zh jg9 v5 oy jo5),je3⟩) (yk:codeIn K oy "_law_head"=true) (xj:keepIn K (.ref f34)=true)
  (a35:nsIn K mainGlobals "_law_bits"=some (some (.ref xy))) (l35:K.lookup xy=some ⟨jj1,u8,.func (fnOf "_law_bits" "_law_bits" (defArgs s_law_bits) (defBody s_law_bits) (defScope s_law_bits) .none jc4 ja6 jd6 si ph jh5),jo0⟩) (zz:codeIn K ph "_law_bits"=true) (zy:keepIn K (.ref xy)=true)
  (a36:nsIn K mainGlobals "_law_word"=some (some (.ref f36))) (l36:K.lookup f36=some ⟨jb2,jk0,.func (fnOf "_law_word" "_law_word" (defArgs s_law_word) (defBody s_law_word) (defScope s_law_word) .none jc8 jg7 jc6 jj7 qc wl),ji9⟩) (d36:codeIn K qc "_law_word"=true) (xk:keepIn K (.ref f36)=true)
  (a37:nsIn K mainGlobals "_law_state"=some (some (.ref f37))) (uq:K.lookup f37=some ⟨jh6,jn0,.func (fnOf "_law_state" "_law_state" (defArgs s_law_state) (defBody s_law_state) (defScope s_law_state) .none jb9 jk3 jf6 jf7 p8 yg),yb⟩) (ux:codeIn K p8 "_law_state"=true) (k37:keepIn K (.ref f37)=true)
  (a38:nsIn K mainGlobals "_law_bad"=some (some (.ref f38))) (vw:K.lookup f38=some ⟨sw,vt,.func (fnOf "_law_bad" "_law_bad" (defArgs s_law_bad) (defBody s_law_bad) (defScope s_law_bad) .none jc9 uy ze tf oi ug),jl6⟩) (d38:codeIn K oi "_law_bad"=true) (k38:keepIn K (.ref f38)=true)
  (ql:nsIn K mainGlobals "law"=some (some (.ref sy))) (l39:K.lookup sy=some ⟨jl4,jb1,.func (fnOf "law" "law" (defArgs s_law) (defBody s_law) (defScope s_law) .none oq pf p9 qh oh pk),jk5⟩) (d39:codeIn K oh "law"=true) (k39:keepIn K (.ref sy)=true)
  {ae:Addr} (aj:nsIn K mainGlobals "NoBits"=some (some (.ref ae)))
  {ad:Addr} (ag:nsIn K mainGlobals "TooMany"=some (some (.ref ad)))
  {io:Addr} (cn:nsIn K mainGlobals "NoHead"=some (some (.ref io)))
  {cv:Addr} (am:nsIn K mainGlobals "NoPicture"=some (some (.ref cv)))
  {de:Addr} (ap:nsIn K mainGlobals "NoLadder"=some (some (.ref de)))
  {gc:Addr} (bn:nsIn K mainGlobals "NoLevel"=some (some (.ref gc)))
  {fk:Addr} (bg:nsIn K mainGlobals "NoPiece"=some (some (.ref fk)))
  {i6:Addr} (cm:nsIn K mainGlobals "NoText"=some (some (.ref i6)))
  {j9:Addr} (cu:nsIn K mainGlobals "NoRow"=some (some (.ref j9)))
  {al:Addr} (ck:nsIn K mainGlobals "WaveError"=some (some (.ref al)))
  (iw:excIn K ae [.type "ValueError",.type "Exception",.type "BaseException",.type "object"] "ValueError.__new__"=true) (iu:exmOne K (.ref ae) (.ref al)=some true) (i8:nsIn K mainGlobals "ValueError"=some none)
  (i7:PySem.W.findIn K (.ref ae) "__getattribute__"=some (some (.builtin "BaseException.__getattribute__"))) (ip:PySem.W.findIn K (.ref ae) "__getattr__"=some none) (iq:PySem.W.hasDictIn K ae=true) (il:PySem.W.subIn K (.ref ae) (.type "BaseException")=some true) (iv:PySem.W.findIn K (.ref ae) "__class__"=some (some (.builtin "object.__class__"))) (iz:PySem.W.specialIn K (.builtin "object.__class__") "__get__"=some (some (.builtin "getset_descriptor.__get__"))) (i0:PySem.W.takesIn K (.builtin "object.__class__")=some true) (ir:PySem.W.mroIn K ae (.type "object")=some true)
  (gd:kitOne K (.ref ae) (.ref ae)=some true)
  (fv:kitOne K (.ref ae) (.ref ad)=some false)
  (en:kitOne K (.ref ae) (.ref io)=some false)
  (e8:kitOne K (.ref ae) (.ref cv)=some false)
  (gf:kitOne K (.ref ae) (.ref de)=some false)
  (eo:kitOne K (.ref ae) (.ref gc)=some false)
  (fm:kitOne K (.ref ae) (.ref fk)=some false)
  (eu:kitOne K (.ref ae) (.ref i6)=some false)
  (et:kitOne K (.ref ae) (.ref j9)=some false)
  (fu:kitOne K (.ref ae) (.type "ValueError")=some true)
  (fg:excIn K ad [.type "ValueError",.type "Exception",.type "BaseException",.type "object"] "ValueError.__new__"=true) (fo:exmOne K (.ref ad) (.ref al)=some true) (fb:nsIn K mainGlobals "ValueError"=some none)
  (fj:PySem.W.findIn K (.ref ad) "__getattribute__"=some (some (.builtin "BaseException.__getattribute__"))) (el:PySem.W.findIn K (.ref ad) "__getattr__"=some none) (eh:PySem.W.hasDictIn K ad=true) (ey:PySem.W.subIn K (.ref ad) (.type "BaseException")=some true) (ft:PySem.W.findIn K (.ref ad) "__class__"=some (some (.builtin "object.__class__"))) (gb:PySem.W.specialIn K (.builtin "object.__class__") "__get__"=some (some (.builtin "getset_descriptor.__get__"))) (fr:PySem.W.takesIn K (.builtin "object.__class__")=some true) (fi:PySem.W.mroIn K ad (.type "object")=some true)
  (c9:kitOne K (.ref ad) (.ref ae)=some false)
  (da:kitOne K (.ref ad) (.ref ad)=some true)
  (dg:kitOne K (.ref ad) (.ref io)=some false)
  (df:kitOne K (.ref ad) (.ref cv)=some false)
  (db:kitOne K (.ref ad) (.ref de)=some false)
  (dk:kitOne K (.ref ad) (.ref gc)=some false)
  (dm:kitOne K (.ref ad) (.ref fk)=some false)
  (c8:kitOne K (.ref ad) (.ref i6)=some false)
  (cz:kitOne K (.ref ad) (.ref j9)=some false)
  (dl:kitOne K (.ref ad) (.type "ValueError")=some true)
  {kj:Tok} (cx:nsIn K mainGlobals "MOST_LIFTS"=some (some (.int 6 kj)))
  {ny:Tok} (lw:nsIn K mainGlobals "ASKS"=some (some (.int 0 ny)))
  {nb:Tok} (la:nsIn K mainGlobals "START"=some (some (.int 1 nb)))
  {n0:Tok} (ng:nsIn K mainGlobals "END"=some (some (.int 2 n0)))
  {nu:Tok} (lu:nsIn K mainGlobals "SPAN"=some (some (.int 3 nu)))
  {mj:Tok} (j4:nsIn K mainGlobals "WAKING"=some (some (.int 0 mj)))
  {ju:Tok} (cq:nsIn K mainGlobals "WAKING_FIRST"=some (some (.int 1 ju)))
  {nr:Tok} (lz:nsIn K mainGlobals "SIGN"=some (some (.int 2 nr)))
  {mz:Tok} (kg:nsIn K mainGlobals "FIGURE"=some (some (.int 3 mz)))
  {nz:Tok} (me:nsIn K mainGlobals "HIGH"=some (some (.int 0 nz)))
  {nt:Tok} (md:nsIn K mainGlobals "WIDE"=some (some (.int 1 nt)))
  {ml:Tok} (j6:nsIn K mainGlobals "PLANES"=some (some (.int 3 ml)))
  {mo:Tok} (j8:nsIn K mainGlobals "LADDER"=some (some (.int 4 mo)))
  {bv:Addr}
  {bx:Addr}
  {cg:Addr}
  {cf:Addr}
  {ci:Addr}
  {ee:Addr} {kr:Option Addr} {kl:Array (Option Value)} {kt:Nat}  (cw:nsIn K mainGlobals "PART_SPANS"=some (some (.ref ee))) (cr:K.lookup ee=some ⟨.type "tuple",kr,.seq #[.ref bv,.ref bx,.ref cg,.ref cf,.ref ci] kt,kl⟩)
  {jk:Option Addr} {jy:Array (Option Value)} {jr:Nat} {gu:Tok} {ij:Tok} (cc:K.lookup bv=some ⟨.type "tuple",jk,.seq #[.int 0 gu,.int 1 ij] jr,jy⟩)
  {jx:Option Addr} {jg:Array (Option Value)} {jo:Nat} {gq:Tok} {gt:Tok} (cj:K.lookup bx=some ⟨.type "tuple",jx,.seq #[.int (-8) gq,.int 8 gt] jo,jg⟩)
  {jq:Option Addr} {jn:Array (Option Value)} {jp:Nat} {gj:Tok} {gy:Tok} (ce:K.lookup cg=some ⟨.type "tuple",jq,.seq #[.int (-8) gj,.int 8 gy] jp,jn⟩)
  {jt:Option Addr} {jj:Array (Option Value)} {jv:Nat} {gv:Tok} {ie:Tok} (bt:K.lookup cf=some ⟨.type "tuple",jt,.seq #[.int (-64) gv,.int 64 ie] jv,jj⟩)
  {jl:Option Addr} {jh:Array (Option Value)} {jz:Nat} {ig:Tok} {gr:Tok} (bp:K.lookup ci=some ⟨.type "tuple",jl,.seq #[.int 0 ig,.int 8 gr] jz,jh⟩)
  {av:Addr}
  {aq:Addr}
  {bc:Addr}
  {aw:Addr}
  {cy:Addr} {ji:Option Addr} {jw:Array (Option Value)} {jm:Nat}  (cp:nsIn K mainGlobals "NUMBER_SPANS"=some (some (.ref cy))) (bu:K.lookup cy=some ⟨.type "tuple",ji,.seq #[.ref av,.ref aq,.ref bc,.ref aw] jm,jw⟩)
  {ii:Option Addr} {gi:Array (Option Value)} {ib:Nat} {dz:Tok} {dy:Tok} (bf:K.lookup av=some ⟨.type "tuple",ii,.seq #[.int 1 dz,.int 64 dy] ib,gi⟩)
  {ic:Option Addr} {gx:Array (Option Value)} {gh:Nat} {dq:Tok} {du:Tok} (bb:K.lookup aq=some ⟨.type "tuple",ic,.seq #[.int 1 dq,.int 64 du] gh,gx⟩)
  {ik:Option Addr} {gw:Array (Option Value)} {gp:Nat} {dw:Tok} {dv:Tok} (az:K.lookup bc=some ⟨.type "tuple",ik,.seq #[.int 0 dw,.int 6 dv] gp,gw⟩)
  {h8:Option Addr} {gk:Array (Option Value)} {gl:Nat} {dt:Tok} {dn:Tok} (ay:K.lookup aw=some ⟨.type "tuple",h8,.seq #[.int 0 dt,.int 4000 dn] gl,gk⟩)
  (z1:nsIn K mainGlobals "len"=some none) (z2:nsIn K mainGlobals "range"=some none) (z3:nsIn K mainGlobals "max"=some none) (z4:nsIn K mainGlobals "min"=some none) (z5:nsIn K mainGlobals "isinstance"=some none) (z6:nsIn K mainGlobals "int"=some none) (z7:nsIn K mainGlobals "bool"=some none) (z8:nsIn K mainGlobals "tuple"=some none) (z9:nsIn K mainGlobals "list"=some none) (z10:nsIn K mainGlobals "all"=some none) (z11:nsIn K mainGlobals "zip"=some none) (um:nsIn K mainGlobals "reversed"=some none) (yx:nsIn K mainGlobals "abs"=some none) (z14:nsIn K mainGlobals "any"=some none) (z15:nsIn K mainGlobals "sum"=some none) (z16:nsIn K mainGlobals "sorted"=some none) (z17:nsIn K mainGlobals "set"=some none) (uk:nsIn K mainGlobals "enumerate"=some none) (yj:nsIn K mainGlobals "dict"=some none) (yi:nsIn K mainGlobals "str"=some none) (z21:nsIn K mainGlobals "divmod"=some none) (sx:nsIn K mainGlobals "ord"=some none)
  (t1:kitOne K (.type "int") (.type "int")=some true) (t2:kitOne K (.type "int") (.type "bool")=some false) (t3:kitOne K (.type "int") (.type "str")=some false) (t4:kitOne K (.type "int") (.type "tuple")=some false) (t5:kitOne K (.type "int") (.type "list")=some false) (t6:kitOne K (.type "bool") (.type "int")=some true) (t7:kitOne K (.type "bool") (.type "bool")=some true) (t8:kitOne K (.type "bool") (.type "str")=some false) (t9:kitOne K (.type "bool") (.type "tuple")=some false) (xt:kitOne K (.type "bool") (.type "list")=some false) (v4:kitOne K (.type "NoneType") (.type "int")=some false) (t12:kitOne K (.type "NoneType") (.type "bool")=some false) (y7:kitOne K (.type "NoneType") (.type "str")=some false) (t14:kitOne K (.type "NoneType") (.type "tuple")=some false) (ud:kitOne K (.type "NoneType") (.type "list")=some false) (vk:kitOne K (.type "str") (.type "int")=some false) (t17:kitOne K (.type "str") (.type "bool")=some false) (sk:kitOne K (.type "str") (.type "str")=some true) (t19:kitOne K (.type "str") (.type "tuple")=some false) (zo:kitOne K (.type "str") (.type "list")=some false) (tw:kitOne K (.type "tuple") (.type "int")=some false) (t22:kitOne K (.type "tuple") (.type "bool")=some false) (yp:kitOne K (.type "tuple") (.type "str")=some false) (t24:kitOne K (.type "tuple") (.type "tuple")=some true) (t25:kitOne K (.type "tuple") (.type "list")=some false) (t26:kitOne K (.type "list") (.type "int")=some false) (t27:kitOne K (.type "list") (.type "bool")=some false) (t28:kitOne K (.type "list") (.type "str")=some false) (x8:kitOne K (.type "list") (.type "tuple")=some false) (wb:kitOne K (.type "list") (.type "list")=some true) (xo:kitOne K (.type "dict") (.type "int")=some false) (t32:kitOne K (.type "dict") (.type "bool")=some false) (zn:kitOne K (.type "dict") (.type "str")=some false) (t34:kitOne K (.type "dict") (.type "tuple")=some false) (t35:kitOne K (.type "dict") (.type "list")=some false):
  ∃fd:FuncData,(∀(s:Shared) (v:Value),BindsTo s fd ⟨[v],[]⟩ [("_law_script",v)])/\∀base:Heap,K.In base->base.Ns mainGlobals mg->FnOk l.prog w K mg base CX0 11 fa fd ["_law_script"] (spLawB K):=by
 have e:=hfa.symm.trans (mg_of X δ ql)
 cases e
 have B:BltV mg:=⟨⟨mg_none_of X δ z1,mg_none_of X δ z2,mg_none_of X δ z3,mg_none_of X δ z4,mg_none_of X δ z5,mg_none_of X δ z6,mg_none_of X δ z7,mg_none_of X δ z8,mg_none_of X δ z9,mg_none_of X δ z10,mg_none_of X δ z11,mg_none_of X δ um⟩,mg_none_of X δ yx,mg_none_of X δ z14,mg_none_of X δ z15,mg_none_of X δ z16,mg_none_of X δ z17,mg_none_of X δ uk,mg_none_of X δ yj,mg_none_of X δ yi,mg_none_of X δ z21,mg_none_of X δ sx⟩
 have KV:KitV K:=KitV.of t1 t2 t3 t4 t5 t6 t7 t8 t9 xt v4 t12 y7 t14 ud vk t17 sk t19 zo tw t22 yp t24 t25 t26 t27 t28 x8 wb xo t32 zn t34 t35
 have ac:ClsV K "Walk" ns_Walk:=⟨⟨_,ak,⟨au,ba,bd,ar⟩,λf hf=>by simp only[ns_Walk,mem_cons,not_mem_nil,or_false]at hf;rcases hf with rfl |rfl |rfl |rfl |rfl<;>first |exact ke |exact ka |exact j7 |exact kc |exact kf⟩,by decide +kernel,by decide⟩
 have aa:ClsV K "Reader" ns_Reader:=⟨⟨_,ao,⟨bh,bo,bj,bi⟩,λf hf=>by simp only[ns_Reader,mem_cons,not_mem_nil,or_false]at hf;rcases hf with rfl |rfl |rfl<;>first |exact ge |exact fq |exact fc⟩,by decide +kernel,by decide⟩
 have lb:∃t,mg "MOST_LIFTS"=some (.int 6 t):=⟨_,mg_of X δ cx⟩
 have nj:∃t,mg "ASKS"=some (.int 0 t):=⟨_,mg_of X δ lw⟩
 have h7:∃t,mg "START"=some (.int 1 t):=⟨_,mg_of X δ la⟩
 have lj:∃t,mg "END"=some (.int 2 t):=⟨_,mg_of X δ ng⟩
 have lv:∃t,mg "SPAN"=some (.int 3 t):=⟨_,mg_of X δ lu⟩
 have j5:∃t,mg "WAKING"=some (.int 0 t):=⟨_,mg_of X δ j4⟩
 have dh:∃t,mg "WAKING_FIRST"=some (.int 1 t):=⟨_,mg_of X δ cq⟩
 have m8:∃t,mg "SIGN"=some (.int 2 t):=⟨_,mg_of X δ lz⟩
 have lr:∃t,mg "FIGURE"=some (.int 3 t):=⟨_,mg_of X δ kg⟩
 have og:∃t,mg "HIGH"=some (.int 0 t):=⟨_,mg_of X δ me⟩
 have oa:∃t,mg "WIDE"=some (.int 1 t):=⟨_,mg_of X δ md⟩
 have nc:∃t,mg "PLANES"=some (.int 3 t):=⟨_,mg_of X δ j6⟩
 have m7:∃t,mg "LADDER"=some (.int 4 t):=⟨_,mg_of X δ j8⟩
 have lc:TupC K mg "PART_SPANS" (D.tup [.tup [.int 0,.int 1],.tup [.int (-8),.int 8],.tup [.int (-8),.int 8],.tup [.int (-64),.int 64],.tup [.int 0,.int 8]]):=⟨_,mg_of X δ cw,λF=>⟨_,[.ref bv,.ref bx,.ref cg,.ref cf,.ref ci],rfl,.inr ⟨_,_,_,cr,rfl,rfl,sz_le (show 5<=1000000 by decide),.cons rfl (.cons rfl (.cons rfl (.cons rfl (.cons rfl (.nil)))))⟩,⟨_,_,rfl,⟨_,[.int 0,.int 1],rfl,.inr ⟨_,_,_,cc,rfl,rfl,sz_le (show 2<=1000000 by decide),.cons ⟨_,rfl⟩ (.cons ⟨_,rfl⟩ (.nil))⟩,⟨_,_,rfl,rfl,⟨_,_,rfl,rfl,rfl⟩⟩⟩,⟨_,_,rfl,⟨_,[.int (-8),.int 8],rfl,.inr ⟨_,_,_,cj,rfl,rfl,sz_le (show 2<=1000000 by decide),.cons ⟨_,rfl⟩ (.cons ⟨_,rfl⟩ (.nil))⟩,⟨_,_,rfl,rfl,⟨_,_,rfl,rfl,rfl⟩⟩⟩,⟨_,_,rfl,⟨_,[.int (-8),.int 8],rfl,.inr ⟨_,_,_,ce,rfl,rfl,sz_le (show 2<=1000000 by decide),.cons ⟨_,rfl⟩ (.cons ⟨_,rfl⟩ (.nil))⟩,⟨_,_,rfl,rfl,⟨_,_,rfl,rfl,rfl⟩⟩⟩,⟨_,_,rfl,⟨_,[.int (-64),.int 64],rfl,.inr ⟨_,_,_,bt,rfl,rfl,sz_le (show 2<=1000000 by decide),.cons ⟨_,rfl⟩ (.cons ⟨_,rfl⟩ (.nil))⟩,⟨_,_,rfl,rfl,⟨_,_,rfl,rfl,rfl⟩⟩⟩,⟨_,_,rfl,⟨_,[.int 0,.int 8],rfl,.inr ⟨_,_,_,bp,rfl,rfl,sz_le (show 2<=1000000 by decide),.cons ⟨_,rfl⟩ (.cons ⟨_,rfl⟩ (.nil))⟩,⟨_,_,rfl,rfl,⟨_,_,rfl,rfl,rfl⟩⟩⟩,rfl⟩⟩⟩⟩⟩⟩⟩
 have di:TupC K mg "NUMBER_SPANS" (D.tup [.tup [.int 1,.int 64],.tup [.int 1,.int 64],.tup [.int 0,.int 6],.tup [.int 0,.int 4000]]):=⟨_,mg_of X δ cp,λF=>⟨_,[.ref av,.ref aq,.ref bc,.ref aw],rfl,.inr ⟨_,_,_,bu,rfl,rfl,sz_le (show 4<=1000000 by decide),.cons rfl (.cons rfl (.cons rfl (.cons rfl (.nil))))⟩,⟨_,_,rfl,⟨_,[.int 1,.int 64],rfl,.inr ⟨_,_,_,bf,rfl,rfl,sz_le (show 2<=1000000 by decide),.cons ⟨_,rfl⟩ (.cons ⟨_,rfl⟩ (.nil))⟩,⟨_,_,rfl,rfl,⟨_,_,rfl,rfl,rfl⟩⟩⟩,⟨_,_,rfl,⟨_,[.int 1,.int 64],rfl,.inr ⟨_,_,_,bb,rfl,rfl,sz_le (show 2<=1000000 by decide),.cons ⟨_,rfl⟩ (.cons ⟨_,rfl⟩ (.nil))⟩,⟨_,_,rfl,rfl,⟨_,_,rfl,rfl,rfl⟩⟩⟩,⟨_,_,rfl,⟨_,[.int 0,.int 6],rfl,.inr ⟨_,_,_,az,rfl,rfl,sz_le (show 2<=1000000 by decide),.cons ⟨_,rfl⟩ (.cons ⟨_,rfl⟩ (.nil))⟩,⟨_,_,rfl,rfl,⟨_,_,rfl,rfl,rfl⟩⟩⟩,⟨_,_,rfl,⟨_,[.int 0,.int 4000],rfl,.inr ⟨_,_,_,ay,rfl,rfl,sz_le (show 2<=1000000 by decide),.cons ⟨_,rfl⟩ (.cons ⟨_,rfl⟩ (.nil))⟩,⟨_,_,rfl,rfl,⟨_,_,rfl,rfl,rfl⟩⟩⟩,rfl⟩⟩⟩⟩⟩⟩
 have mr:ExcV K "NoBits" [("NoBits",true),("TooMany",false),("NoHead",false),("NoPicture",false),("NoLadder",false),("NoLevel",false),("NoPiece",false),("NoText",false),("NoRow",false)] [("ValueError",true)]:=⟨⟨_,aj,⟨i7,ip,iq,il,iv,iz,i0,ir⟩,λy hy=>by simp only[mem_cons,not_mem_nil,or_false]at hy;rcases hy with rfl |rfl |rfl |rfl |rfl |rfl |rfl |rfl |rfl<;>first |exact⟨_,aj,gd⟩ |exact⟨_,ag,fv⟩ |exact⟨_,cn,en⟩ |exact⟨_,am,e8⟩ |exact⟨_,ap,gf⟩ |exact⟨_,bn,eo⟩ |exact⟨_,bg,fm⟩ |exact⟨_,cm,eu⟩ |exact⟨_,cu,et⟩,λy hy=>by simp only[mem_cons,not_mem_nil,or_false]at hy;rcases hy with rfl<;>first |exact fu⟩⟩
 have nh:∀c∈(["NoBits"]:List Str),∀C,nsIn K mainGlobals c=some (some (.ref C))->exmOne K (.ref C) (.ref al)=some true:=λc hc C hC=>by rw[mem_singleton.mp hc,aj]at hC;cases hC;exact iu
 have je:=mg_of X δ ck
 have eg:=mg_none_of X δ i8
 have mf:ExcV K "TooMany" [("NoBits",false),("TooMany",true),("NoHead",false),("NoPicture",false),("NoLadder",false),("NoLevel",false),("NoPiece",false),("NoText",false),("NoRow",false)] [("ValueError",true)]:=⟨⟨_,ag,⟨fj,el,eh,ey,ft,gb,fr,fi⟩,λy hy=>by simp only[mem_cons,not_mem_nil,or_false]at hy;rcases hy with rfl |rfl |rfl |rfl |rfl |rfl |rfl |rfl |rfl<;>first |exact⟨_,aj,c9⟩ |exact⟨_,ag,da⟩ |exact⟨_,cn,dg⟩ |exact⟨_,am,df⟩ |exact⟨_,ap,db⟩ |exact⟨_,bn,dk⟩ |exact⟨_,bg,dm⟩ |exact⟨_,cm,c8⟩ |exact⟨_,cu,cz⟩,λy hy=>by simp only[mem_cons,not_mem_nil,or_false]at hy;rcases hy with rfl<;>first |exact dl⟩⟩
 have mt:∀c∈(["TooMany"]:List Str),∀C,nsIn K mainGlobals c=some (some (.ref C))->exmOne K (.ref C) (.ref al)=some true:=λc hc C hC=>by rw[mem_singleton.mp hc,ag]at hC;cases hC;exact fo
 have je:=mg_of X δ ck
 have eg:=mg_none_of X δ fb
 have sr:∀y∈excM,ExcV K y.1 y.2.1 y.2.2:=by
  simp only[excM,List.forall_mem_cons]
  exact⟨mr,mf,λ_ h=>by cases h⟩
 have x_M:∀c∈(["NoBits","TooMany"]:List Str),∀C,nsIn K mainGlobals c=some (some (.ref C))->exmOne K (.ref C) (.ref al)=some true:=by
  simp only[List.forall_mem_cons]
  exact⟨nh _ (mem_singleton.mpr rfl),mt _ (mem_singleton.mpr rfl),λ_ h=>by cases h⟩
 have m6:NsOf K mg "NoBits":=⟨_,aj,mg_of X δ aj⟩
 have m9:NsOf K mg "NoHead":=⟨_,cn,mg_of X δ cn⟩
 have lx:NsOf K mg "NoLadder":=⟨_,ap,mg_of X δ ap⟩
 have mi:NsOf K mg "NoLevel":=⟨_,bn,mg_of X δ bn⟩
 have ln:NsOf K mg "NoPicture":=⟨_,am,mg_of X δ am⟩
 have mq:NsOf K mg "NoPiece":=⟨_,bg,mg_of X δ bg⟩
 have nv:NsOf K mg "NoRow":=⟨_,cu,mg_of X δ cu⟩
 have nk:NsOf K mg "NoText":=⟨_,cm,mg_of X δ cm⟩
 have mv:NsOf K mg "TooMany":=⟨_,ag,mg_of X δ ag⟩
 have D1:DefAt K mg "is_number" s_is_number _ _:=⟨fun_mk (st:=s_is_number) l1 d1 k1,mg_of X δ a1⟩
 have D2:DefAt K mg "holds" s_holds _ _:=⟨fun_mk (st:=s_holds) l2 d2 k2,mg_of X δ a2⟩
 have D3:DefAt K mg "is_lift" s_is_lift _ _:=⟨fun_mk (st:=s_is_lift) l3 d3 k3,mg_of X δ a3⟩
 have D4:DefAt K mg "is_ladder" s_is_ladder _ _:=⟨fun_mk (st:=s_is_ladder) l4 d4 k4,mg_of X δ a4⟩
 have D5:DefAt K mg "part_of_one" s_part_of_one _ _:=⟨fun_mk (st:=s_part_of_one) l5 d5 k5,mg_of X δ a5⟩
 have D6:DefAt K mg "calm_span" s_calm_span _ _:=⟨fun_mk (st:=s_calm_span) l6 d6 k6,mg_of X δ a6⟩
 have D7:DefAt K mg "signed_span" s_signed_span _ _:=⟨fun_mk (st:=s_signed_span) l7 d7 k7,mg_of X δ a7⟩
 have D8:DefAt K mg "figured_span" s_figured_span _ _:=⟨fun_mk (st:=s_figured_span) l8 d8 k8,mg_of X δ a8⟩
 have D9:Fun K "__init__" "Walk.__init__" s_Walk___init__ _ _:=fun_mk (x := "__init__") (qual := "Walk.__init__") (st:=s_Walk___init__) l9 d9 k9
 have n8:MakAt K mg "Walk" _:=⟨⟨_,ak,⟨kz,a9,i9,kv⟩,mg_of X δ ak⟩⟩
 have D10:MetAt K "Walk" "turn" "Walk.turn" s_Walk_turn _ _:=⟨fun_mk (x := "turn") (qual := "Walk.turn") (st:=s_Walk_turn) l10 d10 q9,⟨_,ak,⟨au,ba,bd,ar⟩,⟨sj,sq,q9⟩⟩⟩
 have D11:MetAt K "Walk" "is_whole" "Walk.is_whole" s_Walk_is_whole _ _:=⟨fun_mk (x := "is_whole") (qual := "Walk.is_whole") (st:=s_Walk_is_whole) l11 zc rh,⟨_,ak,⟨au,ba,bd,ar⟩,⟨a11,sv,rh⟩⟩⟩
 have D12:MetAt K "Walk" "spans" "Walk.spans" s_Walk_spans _ _:=⟨fun_mk (x := "spans") (qual := "Walk.spans") (st:=s_Walk_spans) l12 xh rj,⟨_,ak,⟨au,ba,bd,ar⟩,⟨ue,xx,rj⟩⟩⟩
 have D13:MetAt K "Walk" "follow" "Walk.follow" s_Walk_follow _ _:=⟨fun_mk (x := "follow") (qual := "Walk.follow") (st:=s_Walk_follow) l13 xw rm,⟨_,ak,⟨au,ba,bd,ar⟩,⟨a13,i13,rm⟩⟩⟩
 have D14:MetAt K "Walk" "take" "Walk.take" s_Walk_take _ _:=⟨fun_mk (x := "take") (qual := "Walk.take") (st:=s_Walk_take) l14 v6 qp,⟨_,ak,⟨au,ba,bd,ar⟩,⟨ur,vh,qp⟩⟩⟩
 have D15:MetAt K "Walk" "walk_awake" "Walk.walk_awake" s_Walk_walk_awake _ _:=⟨fun_mk (x := "walk_awake") (qual := "Walk.walk_awake") (st:=s_Walk_walk_awake) l15 va rl,⟨_,ak,⟨au,ba,bd,ar⟩,⟨a15,i15,rl⟩⟩⟩
 have D16:MetAt K "Walk" "wake" "Walk.wake" s_Walk_wake _ _:=⟨fun_mk (x := "wake") (qual := "Walk.wake") (st:=s_Walk_wake) wv yh rk,⟨_,ak,⟨au,ba,bd,ar⟩,⟨vo,i16,rk⟩⟩⟩
 have D17:MetAt K "Walk" "calm" "Walk.calm" s_Walk_calm _ _:=⟨fun_mk (x := "calm") (qual := "Walk.calm") (st:=s_Walk_calm) l17 zx rf,⟨_,ak,⟨au,ba,bd,ar⟩,⟨a17,i17,rf⟩⟩⟩
 have D18:DefAt K mg "followed" s_followed _ _:=⟨fun_mk (st:=s_followed) x6 d18 k18,mg_of X δ a18⟩
 have D19:DefAt K mg "read" s_read _ _:=⟨fun_mk (st:=s_read) u3 y8 k19,mg_of X δ a19⟩
 have D20:DefAt K mg "is_part" s_is_part _ _:=⟨fun_mk (st:=s_is_part) l20 za k20,mg_of X δ a20⟩
 have D21:DefAt K mg "is_head" s_is_head _ _:=⟨fun_mk (st:=s_is_head) ut d21 k21,mg_of X δ a21⟩
 have D22:DefAt K mg "walk_of" s_walk_of _ _:=⟨fun_mk (st:=s_walk_of) l22 vv k22,mg_of X δ vg⟩
 have D23:Fun K "__init__" "Reader.__init__" s_Reader___init__ _ _:=fun_mk (x := "__init__") (qual := "Reader.__init__") (st:=s_Reader___init__) l23 uh k23
 have m4:MakAt K mg "Reader" _:=⟨⟨_,ao,⟨im,a23,zj,iy⟩,mg_of X δ ao⟩⟩
 have D24:MetAt K "Reader" "feed" "Reader.feed" s_Reader_feed _ _:=⟨fun_mk (x := "feed") (qual := "Reader.feed") (st:=s_Reader_feed) yr vb qv,⟨_,ao,⟨bh,bo,bj,bi⟩,⟨a24,rq,qv⟩⟩⟩
 have D25:MetAt K "Reader" "many" "Reader.many" s_Reader_many _ _:=⟨fun_mk (x := "many") (qual := "Reader.many") (st:=s_Reader_many) xq yc qi,⟨_,ao,⟨bh,bo,bj,bi⟩,⟨a25,i25,qi⟩⟩⟩
 have D26:MetAt K "Reader" "is_whole" "Reader.is_whole" s_Reader_is_whole _ _:=⟨fun_mk (x := "is_whole") (qual := "Reader.is_whole") (st:=s_Reader_is_whole) v7 zu qw,⟨_,ao,⟨bh,bo,bj,bi⟩,⟨wm,zm,qw⟩⟩⟩
 have D27:MetAt K "Reader" "spans" "Reader.spans" s_Reader_spans _ _:=⟨fun_mk (x := "spans") (qual := "Reader.spans") (st:=s_Reader_spans) l27 d27 qt,⟨_,ao,⟨bh,bo,bj,bi⟩,⟨a27,i27,qt⟩⟩⟩
 have D28:DefAt K mg "_law_cell_at" s_law_cell_at _ _:=⟨fun_mk (st:=s_law_cell_at) l28 xv r9,mg_of X δ tq⟩
 have D29:DefAt K mg "_law_whole" s_law_whole _ _:=⟨fun_mk (st:=s_law_whole) l29 tt uz,mg_of X δ a29⟩
 have D30:DefAt K mg "_law_spread" s_law_spread _ _:=⟨fun_mk (st:=s_law_spread) l30 vj u4,mg_of X δ a30⟩
 have D31:DefAt K mg "_law_ladder" s_law_ladder _ _:=⟨fun_mk (st:=s_law_ladder) l31 vp k31,mg_of X δ a31⟩
 have D32:DefAt K mg "_law_sizes" s_law_sizes _ _:=⟨fun_mk (st:=s_law_sizes) vy d32 w9,mg_of X δ a32⟩
 have D33:DefAt K mg "_law_how" s_law_how _ _:=⟨fun_mk (st:=s_law_how) yz d33 yn,mg_of X δ a33⟩
 have D34:DefAt K mg "_law_head" s_law_head _ _:=⟨fun_mk (st:=s_law_head) zf yk xj,mg_of X δ u5⟩
 have D35:DefAt K mg "_law_bits" s_law_bits _ _:=⟨fun_mk (st:=s_law_bits) l35 zz zy,mg_of X δ a35⟩
 have D36:DefAt K mg "_law_word" s_law_word _ _:=⟨fun_mk (st:=s_law_word) l36 d36 xk,mg_of X δ a36⟩
 have D37:DefAt K mg "_law_state" s_law_state _ _:=⟨fun_mk (st:=s_law_state) uq ux k37,mg_of X δ a37⟩
 have D38:DefAt K mg "_law_bad" s_law_bad _ _:=⟨fun_mk (st:=s_law_bad) vw d38 k38,mg_of X δ a38⟩
 have D39:DefAt K mg "law" s_law _ _:=⟨fun_mk (st:=s_law) l39 d39 k39,mg_of X δ ql⟩
 refine⟨fnOf "law" "law" (defArgs s_law) (defBody s_law) (defScope s_law) .none oq pf p9 qh oh pk,λs v=>.of_eq rfl,λbase KB GB=>?_⟩
 have nq:=own_of KB GB aj iw
 have mn:=own_of KB GB ag fg
 have ec:=ok_law_cell_at l.prog w base D28 B KV ac aa
 have lh:=ok_law_sizes l.prog w base D32 B KV ac aa
 have kx:=ok_law_spread l.prog w base D30 B KV ac aa
 have ky:=ok_law_ladder l.prog w base D31 B KV ac aa kx
 have my:=ok_law_how l.prog w base D33 B KV ac aa ky
 have ma:=ok_law_head l.prog w base D34 B KV ac aa ec lh my
 have ly:=ok_law_bits l.prog w base D35 B KV ac aa
 have ja:=ok_calm_span l.prog w base D6 B KV ac aa
 have jf:=ok_Walk_turn l.prog w base D10 B KV ac aa
 have js:=ok_Walk___init__ l.prog w base D9 n8 B KV ac aa j5 ja jf
 have br:=ok_Walk_is_whole l.prog w base D11 B KV ac aa
 have gm:=ok_Walk_walk_awake l.prog w base D15 B KV ac aa lr h7 lj
 have j0:=ok_figured_span l.prog w base D8 B KV ac aa
 have km:=ok_signed_span l.prog w base D7 B KV ac aa
 have kq:=ok_part_of_one l.prog w base D5 B KV ac aa lj h7
 have jc:=ok_Walk_wake l.prog w base D16 B KV ac aa m8 j5 dh h7 lj lv kq
 have li:=ok_Walk_calm l.prog w base D17 B KV ac aa dh j5 nj h7 lj ja jc
 have ll:=ok_Walk_take l.prog w base D14 B KV ac aa lr nj m8 lv gm j0 km jc li jf
 have ed:=ok_Walk_follow l.prog w base D13 B KV ac aa br ll
 have kb:=ok_followed l.prog w base D18 B KV ac aa js ed
 have ia:=ok_Walk_spans l.prog w base D12 B KV ac aa lv lj h7
 have n9:=ok_read l.prog w base D19 B KV ac aa kb ia br
 have jd:=ok_is_number l.prog w base D1 B KV ac aa
 have mh:=ok_holds l.prog w base D2 B KV ac aa
 have mx:=ok_is_part l.prog w base D20 B KV ac aa di jd mh
 have ms:=ok_is_lift l.prog w base D3 B KV ac aa lc jd mh
 have lg:=ok_is_ladder l.prog w base D4 B KV ac aa lb ms
 have mw:=ok_is_head l.prog w base D21 B KV ac aa m7 di mx lg
 have ku:=ok_walk_of l.prog w base D22 B KV ac aa nc og oa kb
 have gz:=ok_Reader___init__ l.prog w base D23 m4 B KV ac aa mw ku
 have ki:=ok_Reader_many l.prog w base D25 B KV ac aa
 have gn:=ok_Reader_is_whole l.prog w base D26 B KV ac aa br
 have kd:=ok_Reader_spans l.prog w base D27 B KV ac aa ia
 have jb:=ok_law_state l.prog w base D37 B KV ac aa ki gn kd
 have ko:=ok_Reader_feed l.prog w base D24 B KV aj nq ag mn ac aa ed ku
 have kh:=ok_law_word l.prog w base D36 B KV je x_M sr eg ac aa m6 mv m9 ln lx mi mq nk nv ko
 have mm:=ok_law_bad l.prog w base D38 B KV ac aa jb kh
 have lm:=ok_law_whole l.prog w base D29 B KV ac aa
 exact ok_law l.prog w base D39 B KV ac aa ma ly n9 ec gz mm kh jb lm
end Lw
namespace PySem.W.Fast
def tw16603713150566485197:=Nat
def tw243085722684634542:=Nat
def tw13944001687423776999:=Nat
def tw6539617076330132178:=Nat
def tw2020957830243115091:=Nat
def tw16798157476322103875:=Nat
def tw7214430175685140884:=Nat
def tw8950852405491084107:=Nat
def tw15414261919098797181:=Nat
def tw12530526966437485480:=Nat
def tw7884363334290156981:=Nat
def tw6312316070905171890:=Nat
def tw16418565828662456015:=Nat
def tw3979751566924223864:=Nat
def tw6218649427204951091:=Nat
def tw6880578218125318047:=Nat
def tw6986274502970529655:=Nat
def tw12954614497078999043:=Nat
def tw3291622360611246264:=Nat
def tw16797621964082510756:=Nat
def tw13586905933752359791:=Nat
def tw5442444796232112158:=Nat
def tw7455559336436591599:=Nat
def tw1549112859262062347:=Nat
def tw9901254975247576301:=Nat
def tw17654457375613511320:=Nat
def tw10265661388281033204:=Nat
def tw18395625372376641360:=Nat
def tw16675455643702033244:=Nat
def tw443762849949472647:=Nat
def tw13503527219865434819:=Nat
def tw8911182667643312122:=Nat
def tw8565747728581598698:=Nat
def tw5433152498565323463:=Nat
def tw6577737757637616090:=Nat
def tw6822799210013712832:=Nat
def tw11508702908067038708:=Nat
def tw16028976998302537200:=Nat
def tw6424853694094741403:=Nat
def tw3214539016028955331:=Nat
def tw3975378669607752871:=Nat
def tw14899361826466299433:=Nat
def tw2580009687076212399:=Nat
def tw5078525669404386598:=Nat
def tw4610049240947075723:=Nat
def tw9418735173607955518:=Nat
def tw10278293505023909853:=Nat
def tw7543889385322352501:=Nat
def tw17992272267897798961:=Nat
def tw17253596219561258300:=Nat
def tw11502577895303416081:=Nat
def tw6379426121294377823:=Nat
def tw13246905072432844866:=Nat
def tw15603915324686191683:=Nat
def tw13164398137286150319:=Nat
def tw9359549305575125726:=Nat
def tw5153238702565618614:=Nat
def tw4998218183299324050:=Nat
def tw15353044184446331361:=Nat
def tw18403974698435424671:=Nat
def tw5655096160566557077:=Nat
def tw7677308160575617486:=Nat
def tw15926537568367803462:=Nat
def tw8702305082176427789:=Nat
def tw9131527025673017105:=Nat
def tw12540522586734538011:=Nat
def tw18351880794682389706:=Nat
def tw5664904117267465833:=Nat
def tw10071292977748109720:=Nat
def tw9607301478808371077:=Nat
def tw17137067891630151262:=Nat
def tw16750662868310950430:=Nat
def tw7669702739450983738:=Nat
def tw6843276623830421146:=Nat
def tw11944667024959863380:=Nat
def tw17329801574414345299:=Nat
def tw7814280821941891379:=Nat
def tw3148448171332367939:=Nat
def tw10971492985011016187:=Nat
def tw17141372407230704474:=Nat
def tw11611477015043786634:=Nat
def tw12848942974588624846:=Nat
def tw2119777014756806440:=Nat
def tw4495114464487747176:=Nat
def tw14340669877342069734:=Nat
def tw2869878470507981197:=Nat
def tw5135954550022011834:=Nat
def tw17486840775657968394:=Nat
def tw14088163075713161153:=Nat
def tw12748789636280340931:=Nat
def tw7398790518501658418:=Nat
def tw1165573078200916813:=Nat
def tw18124172855803762096:=Nat
def tw2702134022185268579:=Nat
def tw6818844358490316622:=Nat
def tw276680849560076389:=Nat
def tw9799384519802437923:=Nat
def tw4601133031605275971:=Nat
def tw852472565186394823:=Nat
def tw16658689922306325860:=Nat
def tw2445611357284279569:=Nat
def tw13095359415051208352:=Nat
def tw15991519446977982003:=Nat
def tw6681768231268181437:=Nat
def tw2992225429223644986:=Nat
def tw1398351719324899123:=Nat
def tw89498155441960971:=Nat
def tw1570752122672695235:=Nat
def tw5562375889946089749:=Nat
def tw2854802701776448438:=Nat
def tw17521129608009797902:=Nat
def tw8830291540487235909:=Nat
def tw2025331037917741975:=Nat
def tw4838188639973326646:=Nat
def tw11324030552396716149:=Nat
def tw9706454169150417305:=Nat
def tw8641063064382416879:=Nat
def tw11431380821527967054:=Nat
def tw13923119135700041905:=Nat
def tw15338597832474285566:=Nat
def tw16335171939394696691:=Nat
def tw16838004607893937311:=Nat
def tw10140772276219391365:=Nat
def tw981780601490400339:=Nat
def tw6692368079539574424:=Nat
def tw5901055176953884482:=Nat
def tw15097164324129316318:=Nat
def tw7097194729475629203:=Nat
def tw9141596163381333650:=Nat
def tw5810673581699257064:=Nat
def tw452077273320293027:=Nat
def tw5677797660070829349:=Nat
def tw3251484280170139747:=Nat
def tw12520775645142269154:=Nat
def tw16617277833841046802:=Nat
def tw2291822702137126701:=Nat
def tw7827008281048518696:=Nat
def tw17437425330640209323:=Nat
def tw13555729951266335919:=Nat
def tw8760157931184815503:=Nat
def tw2959118345619161942:=Nat
def tw14074736119352922285:=Nat
def tw4939876872137659227:=Nat
def tw14271528635369462821:=Nat
def tw7950628270321752024:=Nat
def tw7407647817845438615:=Nat
def tw11620124957265832701:=Nat
def tw1848524446420279584:=Nat
def tw13385918977934708972:=Nat
def tw6406095711684843010:=Nat
def tw10764804733730846898:=Nat
def tw7023615620488228973:=Nat
def tw17677009043438517720:=Nat
def tw5559219798497537558:=Nat
def tw10172542172252413725:=Nat
def tw15796803302384600704:=Nat
def tw1636996883234548483:=Nat
def tw7949599419255903354:=Nat
def tw12591080452537576684:=Nat
def tw4579706684881594714:=Nat
def tw8606803234088382048:=Nat
def tw16630053334452886813:=Nat
def tw3908918415600247650:=Nat
def tw18388772782930693708:=Nat
def tw15400730961589788009:=Nat
def tw7577059382031465722:=Nat
def tw3237663742786442041:=Nat
def tw3775919447772588727:=Nat
def tw9377202298202886868:=Nat
def tw580380634310700889:=Nat
def tw4127740376504336347:=Nat
def tw14840829507381968771:=Nat
def tw17471859787697323266:=Nat
def tw17076527484542034275:=Nat
def tw9225031859122691343:=Nat
def tw10988472437226138580:=Nat
def tw17112812513249771500:=Nat
def tw5871041341987396049:=Nat
def tw17563372033824759048:=Nat
def tw15894629495016139084:=Nat
def tw4852827736585113671:=Nat
def tw12636412855303667433:=Nat
def tw7884288832533470614:=Nat
def tw5986776188335566763:=Nat
def tw10970748691748098946:=Nat
def tw1589821296019075055:=Nat
def tw10431684223964399969:=Nat
def tw817636330570597433:=Nat
def tw12458722135037420853:=Nat
def tw7811697219162986144:=Nat
def tw17086758616201509192:=Nat
def tw15546573404827289076:=Nat
def tw17578648047900710735:=Nat
def tw15243493713111182913:=Nat
def tw14942737495547680574:=Nat
def tw1716077653790007054:=Nat
def tw2547753112527163595:=Nat
def tw9935868302913442512:=Nat
def tw16350481296757374371:=Nat
def tw15869322593962461230:=Nat
def tw1977378060907697438:=Nat
def tw2664561728359469099:=Nat
def tw312394604225610670:=Nat
def tw9712481452131450293:=Nat
def tw15210245084502269928:=Nat
def tw9607237335390993224:=Nat
def tw5513438509820889804:=Nat
def tw15552038782683799060:=Nat
def tw6114632272010246035:=Nat
def tw1285905730029439536:=Nat
def tw15858687578652037290:=Nat
def tw552290714216236135:=Nat
def tw13553072590960975510:=Nat
def tw11484733758510903891:=Nat
def tw8064865620738977018:=Nat
def tw7302844805675053342:=Nat
def tw2188047251295568325:=Nat
def tw8629530055581423441:=Nat
def tw10500375588354990196:=Nat
def tw14398618998338172262:=Nat
def tw52480447766308203:=Nat
def tw3578679464291833141:=Nat
def tw9079104477259193169:=Nat
def tw9247417533522726001:=Nat
def tw2935899001206137199:=Nat
def tw4356274150478301083:=Nat
def tw6703103127080840177:=Nat
def tw850656984264611660:=Nat
def tw10539944975795213994:=Nat
def tw14877076314278086380:=Nat
def tw9094674874277531510:=Nat
def tw5770256504677461666:=Nat
def tw17058319513978141596:=Nat
def tw10309594476091547243:=Nat
def tw1776514118020935471:=Nat
def tw10968024389110517556:=Nat
def tw8592216079829401622:=Nat
def tw5299300665919998752:=Nat
def tw3105328352357543715:=Nat
def tw9151886138240249594:=Nat
def tw8364373526779377078:=Nat
def tw11102487495996665618:=Nat
def tw3485078349523912099:=Nat
def tw2577726091902587690:=Nat
def tw4743963799359305448:=Nat
def tw15235542326762466375:=Nat
def tw2250784424169175517:=Nat
def tw15190010825749565790:=Nat
def tw2052674732760366051:=Nat
def tw2021423206243953298:=Nat
def tw13418488996493827526:=Nat
def tw13262681042824883963:=Nat
def tw12118432290384612266:=Nat
def tw4861427464301299029:=Nat
def tw1183534962020960637:=Nat
def tw6185076190598552272:=Nat
def tw7360959391985926149:=Nat
def tw15338150436004276273:=Nat
def tw9794117395192553130:=Nat
def tw14019045101629293122:=Nat
def tw15851889883022883957:=Nat
def tw1681344124353093138:=Nat
def tw11135661327052270566:=Nat
def tw6358265176050224267:=Nat
def tw10140102992962247996:=Nat
def tw1865193942637763186:=Nat
def tw16852427770320659637:=Nat
def tw4237943322860240527:=Nat
def tw8808417754081892784:=Nat
def tw10958113617943189102:=Nat
def tw9069090165842065841:=Nat
def tw17726196395241956083:=Nat
def tw10241625502288631079:=Nat
def tw2538091888927717724:=Nat
def tw14088230320062473226:=Nat
def tw16500424519123075914:=Nat
def tw9259131165466462040:=Nat
def tw8387478008174318260:=Nat
def tw16857473172849533137:=Nat
def tw13275448998600637748:=Nat
def tw17643827080502652846:=Nat
def tw16711194484054544676:=Nat
def tw672775103976605533:=Nat
def tw5558731312415310607:=Nat
def tw15534091869955379324:=Nat
def tw14653028560648775181:=Nat
def tw14782995571819231814:=Nat
def tw6797373910956135996:=Nat
def tw14566750829973595972:=Nat
def tw17338464412362416471:=Nat
def tw3573316160172256647:=Nat
def tw2807724445600835099:=Nat
def tw2669227351925516083:=Nat
def tw10041514847287046090:=Nat
def tw11108306100276735706:=Nat
def tw3713617523507197752:=Nat
def tw6026679489055667755:=Nat
def tw8282434009698230063:=Nat
def tw6117217392962866165:=Nat
def tw3464310261199165795:=Nat
def tw16085844792784344489:=Nat
def tw10152786925531239036:=Nat
def tw7273648586785623362:=Nat
def tw4566156602469081236:=Nat
def tw630588537992431746:=Nat
def tw16269177504200027701:=Nat
def tw11008457765859697854:=Nat
def tw4043917435519013618:=Nat
def tw8494475568568661253:=Nat
def tw17697520954257695056:=Nat
def tw1488379682277621348:=Nat
def tw12311749937435905078:=Nat
def tw3756073323728767119:=Nat
def tw1798173813007497631:=Nat
def tw13586015367963144254:=Nat
def tw639552537562010549:=Nat
def tw15177600831454926898:=Nat
def tw13956843772936173589:=Nat
def tw12729674811380250083:=Nat
def tw2921113997941751870:=Nat
def tw13040879537448645657:=Nat
def tw8242215205712045870:=Nat
def tw9108991702093549076:=Nat
def tw13427479950224677684:=Nat
def tw16609307911839899531:=Nat
def tw16520113575818727314:=Nat
def tw13071520415799988688:=Nat
def tw8793488470769400379:=Nat
def tw6527379708446302202:=Nat
def tw2041237577727286525:=Nat
def tw3972776612861325617:=Nat
def tw13669827455307718226:=Nat
def tw9999179704456136779:=Nat
def tw16382709481643946741:=Nat
def tw11486487243275126095:=Nat
def tw836264089092821052:=Nat
def tw6011380774192159758:=Nat
def tw5262010823789252971:=Nat
def tw11454193024174464443:=Nat
def tw6089236490812598598:=Nat
def tw2447397608208311511:=Nat
def tw2435360893731836492:=Nat
def tw1299281345977029258:=Nat
def tw3589660592337848073:=Nat
def tw3974372378052871569:=Nat
def tw18260769065809186154:=Nat
def tw3152117579048839536:=Nat
def tw8381402280382368406:=Nat
def tw5007323393764577701:=Nat
def tw5853349377022066881:=Nat
def tw15154252244035929147:=Nat
def tw16921273790765934462:=Nat
def tw1942931485673156936:=Nat
def tw13681315902616398576:=Nat
def tw10267166225087754023:=Nat
def tw2089117073783079691:=Nat
def tw17239763003844606745:=Nat
def tw15702486321643004398:=Nat
def tw4257632201596068655:=Nat
def tw16446361188257099035:=Nat
def tw8671549840229299662:=Nat
def tw9743890525423439972:=Nat
def tw16321188928563512710:=Nat
def tw15294875626332870070:=Nat
def tw8304055655267965678:=Nat
def tw15808061271096929115:=Nat
def tw9485801801323071114:=Nat
def tw7204327225260847279:=Nat
def tw2519284842564746008:=Nat
def tw5808589241827711872:=Nat
def tw17679473351580007698:=Nat
def tw2004693985811029571:=Nat
def tw2469302525105525444:=Nat
def tw122471714511059777:=Nat
def tw6986897956132195573:=Nat
def tw5503888173652001851:=Nat
def tw10187753004222550397:=Nat
def tw3583278705590715370:=Nat
def tw11651500712507798172:=Nat
def tw6894473003763157821:=Nat
def tw6576302932642356917:=Nat
def tw15546942416701003973:=Nat
def tw390208180507423663:=Nat
def tw5089712086600271806:=Nat
def tw4666465780658954395:=Nat
def tw10206990415810570928:=Nat
def tw15283409836083056585:=Nat
def tw3286630366393995216:=Nat
def tw6194449810299962908:=Nat
def tw15996713479005645166:=Nat
def tw4906865182000723394:=Nat
def tw9246525062177718432:=Nat
def tw17080805081103121499:=Nat
def tw17655101844217283132:=Nat
def tw2745768479653990711:=Nat
def tw12998448985272078286:=Nat
def tw2502088296537155186:=Nat
def tw9109756599588112588:=Nat
def tw349130597241412796:=Nat
def tw18351494232204866461:=Nat
def tw16628372696393969327:=Nat
def tw15880082220429333008:=Nat
def tw8206820797354769045:=Nat
def tw17053218657084470295:=Nat
def tw7105021683061898783:=Nat
def tw7387055428792761167:=Nat
def tw14971940237354858671:=Nat
def tw15477046874011549123:=Nat
def tw6634771025434606406:=Nat
def tw12782586956968630912:=Nat
def tw1801172736243421635:=Nat
def tw902458243443366990:=Nat
def tw15654847136930182213:=Nat
def tw15472379265880780422:=Nat
def tw14222849390581952925:=Nat
def tw11769053070464372190:=Nat
def tw5025548978969084382:=Nat
def tw17466704179945628323:=Nat
def tw7306801892262658861:=Nat
def tw4743989133330245569:=Nat
def tw13607457592362232244:=Nat
def tw15620722480761929043:=Nat
def tw8851565392300802554:=Nat
def tw16058635083151712402:=Nat
def tw16221330997009369095:=Nat
def tw13681843069811202933:=Nat
def tw3746837101541151378:=Nat
def tw8818743424420569024:=Nat
def tw6021473404323383200:=Nat
def tw7209867854447904411:=Nat
def tw3796407313168458180:=Nat
def tw15529171292447704618:=Nat
def tw7480391732325104458:=Nat
def tw11048923246062177080:=Nat
def tw5975217695950240765:=Nat
def tw6940534187979085704:=Nat
def tw1557202623123942114:=Nat
def tw9714365585999040045:=Nat
def tw10306581250099138146:=Nat
def tw7122129495765145595:=Nat
def tw15461497588665314364:=Nat
def tw3973922534355254476:=Nat
def tw746897216515130759:=Nat
def tw8314238142818130243:=Nat
def tw17496492664954797881:=Nat
def tw10510028211180634497:=Nat
def tw2313914750862577702:=Nat
def tw17550163648496743482:=Nat
def tw2764530430544394230:=Nat
def tw929434478898731809:=Nat
def tw3646322331485986498:=Nat
def tw10303241819106661653:=Nat
def tw13772567107831396105:=Nat
def tw16452586669132156072:=Nat
def tw14228504539928053134:=Nat
def tw1646952858128335750:=Nat
def tw9869246908712593456:=Nat
def tw8381061694606762307:=Nat
def tw2020148558533892917:=Nat
end PySem.W.Fast
open PySem PySem.W PyProof.Rows
set_option maxRecDepth 100000 in
set_option maxHeartbeats 0 in
theorem PySem.Challenge.cw_liftwave_k32_reader_refuses_holds : PySem.Challenge.rw_liftwave_k32_reader_refuses.Holds := by
 w_on;o_law;k_head;(case hw=>w_witness2)
 k_fill
 refine L2.law_walkB (k:=11) (l:=PySem.Challenge.rw_liftwave_k32_reader_refuses) rfl rfl ⟨rfl,by decide,by decide⟩ (λw h σ=>PySem.W.kIn_of σ) ?F
 case F=>
  intro w mg fa h KX δ hmg
  refine' Lw.all_mk KX δ hmg ?ak ?au ?ba ?bd ?ar ?kz ?kv ?ke ?ka ?j7 ?kc ?kf ?ao ?bh ?bo ?bj ?bi ?im ?iy ?ge ?fq ?fc ?a1 ?l1 ?d1 ?k1 ?a2 ?l2 ?d2 ?k2 ?a3 ?l3 ?d3 ?k3 ?a4 ?l4 ?d4 ?k4 ?a5 ?l5 ?d5 ?k5 ?a6 ?l6 ?d6 ?k6 ?a7 ?l7 ?d7 ?k7 ?a8 ?l8 ?d8 ?k8 ?a9 ?i9 ?l9 ?d9 ?k9 ?sj ?sq ?l10 ?d10 ?q9 ?a11 ?sv ?l11 ?zc ?rh ?ue ?xx ?l12 ?xh ?rj ?a13 ?i13 ?l13 ?xw ?rm ?ur ?vh ?l14 ?v6 ?qp ?a15 ?i15 ?l15 ?va ?rl ?vo ?i16 ?wv ?yh ?rk ?a17 ?i17 ?l17 ?zx ?rf ?a18 ?x6 ?d18 ?k18 ?a19 ?u3 ?y8 ?k19 ?a20 ?l20 ?za ?k20 ?a21 ?ut ?d21 ?k21 ?vg ?l22 ?vv ?k22 ?a23 ?zj ?l23 ?uh ?k23 ?a24 ?rq ?yr ?vb ?qv ?a25 ?i25 ?xq ?yc ?qi ?wm ?zm ?v7 ?zu ?qw ?a27 ?i27 ?l27 ?d27 ?qt ?tq ?l28 ?xv ?r9 ?a29 ?l29 ?tt ?uz ?a30 ?l30 ?vj ?u4 ?a31 ?l31 ?vp ?k31 ?a32 ?vy ?d32 ?w9 ?a33 ?yz ?d33 ?yn ?u5 ?zf ?yk ?xj ?a35 ?l35 ?zz ?zy ?a36 ?l36 ?d36 ?xk ?a37 ?uq ?ux ?k37 ?a38 ?vw ?d38 ?k38 ?ql ?l39 ?d39 ?k39 ?aj ?ag ?cn ?am ?ap ?bn ?bg ?cm ?cu ?ck ?iw ?iu ?i8 ?i7 ?ip ?iq ?il ?iv ?iz ?i0 ?ir ?gd ?fv ?en ?e8 ?gf ?eo ?fm ?eu ?et ?fu ?fg ?fo ?fb ?fj ?el ?eh ?ey ?ft ?gb ?fr ?fi ?c9 ?da ?dg ?df ?db ?dk ?dm ?c8 ?cz ?dl ?cx ?lw ?la ?ng ?lu ?j4 ?cq ?lz ?kg ?me ?md ?j6 ?j8 ?cw ?cr ?cc ?cj ?ce ?bt ?bp ?cp ?bu ?bf ?bb ?az ?ay ?z1 ?z2 ?z3 ?z4 ?z5 ?z6 ?z7 ?z8 ?z9 ?z10 ?z11 ?um ?yx ?z14 ?z15 ?z16 ?z17 ?uk ?yj ?yi ?z21 ?sx ?t1 ?t2 ?t3 ?t4 ?t5 ?t6 ?t7 ?t8 ?t9 ?xt ?v4 ?t12 ?y7 ?t14 ?ud ?vk ?t17 ?sk ?t19 ?zo ?tw ?t22 ?yp ?t24 ?t25 ?t26 ?t27 ?t28 ?x8 ?wb ?xo ?t32 ?zn ?t34 ?t35
  (case ak|au|ba|bd|ar|kz|kv|ke|ka|j7|kc|kf|ao|bh|bo|bj|bi|im|iy|ge|fq|fc|a1|l1|d1|k1|a2|l2|d2|k2|a3|l3|d3|k3|a4|l4|d4|k4|a5|l5|d5|k5|a6|l6|d6|k6|a7|l7|d7|k7|a8|l8|d8|k8|a9|i9|l9|d9|k9|sj|sq|l10|d10|q9|a11|sv|l11|zc|rh|ue|xx|l12|xh|rj|a13|i13|l13|xw|rm|ur|vh|l14|v6|qp|a15|i15|l15|va|rl|vo|i16|wv|yh|rk|a17|i17|l17|zx|rf|a18|x6|d18|k18|a19|u3|y8|k19|a20|l20|za|k20|a21|ut|d21|k21|vg|l22|vv|k22|a23|zj|l23|uh|k23|a24|rq|yr|vb|qv|a25|i25|xq|yc|qi|wm|zm|v7|zu|qw|a27|i27|l27|d27|qt|tq|l28|xv|r9|a29|l29|tt|uz|a30|l30|vj|u4|a31|l31|vp|k31|a32|vy|d32|w9|a33|yz|d33|yn|u5|zf|yk|xj|a35|l35|zz|zy|a36|l36|d36|xk|a37|uq|ux|k37|a38|vw|d38|k38|ql|l39|d39|k39=>k_is)
  (case aj=>first |k_is |kts_exm |kernel_rfl);(case ag=>first |k_is |kts_exm |kernel_rfl);(case cn=>first |k_is |kts_exm |kernel_rfl);(case am=>first |k_is |kts_exm |kernel_rfl);(case ap=>first |k_is |kts_exm |kernel_rfl);(case bn=>first |k_is |kts_exm |kernel_rfl);(case bg=>first |k_is |kts_exm |kernel_rfl);(case cm=>first |k_is |kts_exm |kernel_rfl);(case cu=>first |k_is |kts_exm |kernel_rfl);(case ck=>first |k_is |kts_exm |kernel_rfl);(case iw=>first |k_is |kts_exm |kernel_rfl);(case iu=>first |k_is |kts_exm |kernel_rfl);(case i8=>first |k_is |kts_exm |kernel_rfl);(case i7=>first |k_is |kts_exm |kernel_rfl);(case ip=>first |k_is |kts_exm |kernel_rfl);(case iq=>first |k_is |kts_exm |kernel_rfl);(case il=>first |k_is |kts_exm |kernel_rfl);(case iv=>first |k_is |kts_exm |kernel_rfl);(case iz=>first |k_is |kts_exm |kernel_rfl);(case i0=>first |k_is |kts_exm |kernel_rfl);(case ir=>first |k_is |kts_exm |kernel_rfl);(case gd=>first |k_is |kts_exm |kernel_rfl);(case fv=>first |k_is |kts_exm |kernel_rfl);(case en=>first |k_is |kts_exm |kernel_rfl);(case e8=>first |k_is |kts_exm |kernel_rfl);(case gf=>first |k_is |kts_exm |kernel_rfl);(case eo=>first |k_is |kts_exm |kernel_rfl);(case fm=>first |k_is |kts_exm |kernel_rfl);(case eu=>first |k_is |kts_exm |kernel_rfl);(case et=>first |k_is |kts_exm |kernel_rfl);(case fu=>first |k_is |kts_exm |kernel_rfl);(case fg=>first |k_is |kts_exm |kernel_rfl);(case fo=>first |k_is |kts_exm |kernel_rfl);(case fb=>first |k_is |kts_exm |kernel_rfl);(case fj=>first |k_is |kts_exm |kernel_rfl);(case el=>first |k_is |kts_exm |kernel_rfl);(case eh=>first |k_is |kts_exm |kernel_rfl);(case ey=>first |k_is |kts_exm |kernel_rfl);(case ft=>first |k_is |kts_exm |kernel_rfl);(case gb=>first |k_is |kts_exm |kernel_rfl);(case fr=>first |k_is |kts_exm |kernel_rfl);(case fi=>first |k_is |kts_exm |kernel_rfl);(case c9=>first |k_is |kts_exm |kernel_rfl);(case da=>first |k_is |kts_exm |kernel_rfl);(case dg=>first |k_is |kts_exm |kernel_rfl);(case df=>first |k_is |kts_exm |kernel_rfl);(case db=>first |k_is |kts_exm |kernel_rfl);(case dk=>first |k_is |kts_exm |kernel_rfl);(case dm=>first |k_is |kts_exm |kernel_rfl);(case c8=>first |k_is |kts_exm |kernel_rfl);(case cz=>first |k_is |kts_exm |kernel_rfl);(case dl=>first |k_is |kts_exm |kernel_rfl)
  (case cx|lw|la|ng|lu|j4|cq|lz|kg|me|md|j6|j8|cw|cr|cc|cj|ce|bt|bp|cp|bu|bf|bb|az|ay|z1|z2|z3|z4|z5|z6|z7|z8|z9|z10|z11|um|yx|z14|z15|z16|z17|uk|yj|yi|z21|sx=>k_is)
  (case t1=>kit_is);(case t2=>kit_is);(case t3=>kit_is);(case t4=>kit_is);(case t5=>kit_is);(case t6=>kit_is);(case t7=>kit_is);(case t8=>kit_is);(case t9=>kit_is);(case xt=>kit_is);(case v4=>kit_is);(case t12=>kit_is);(case y7=>kit_is);(case t14=>kit_is);(case ud=>kit_is);(case vk=>kit_is);(case t17=>kit_is);(case sk=>kit_is);(case t19=>kit_is);(case zo=>kit_is);(case tw=>kit_is);(case t22=>kit_is);(case yp=>kit_is);(case t24=>kit_is);(case t25=>kit_is);(case t26=>kit_is);(case t27=>kit_is);(case t28=>kit_is);(case x8=>kit_is);(case wb=>kit_is);(case xo=>kit_is);(case t32=>kit_is);(case zn=>kit_is);(case t34=>kit_is);(case t35=>kit_is)